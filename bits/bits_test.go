package bits_test

import (
	"bytes"
	"math"
	"slices"
	"strings"
	"testing"

	"removalist/api"
	"removalist/bits"
)

// bitmap packs a text of 0 and 1, the bit of item 0 first; spaces are ignored.
func bitmap(text string) []byte {
	text = strings.ReplaceAll(text, " ", "")
	for len(text)%8 != 0 {
		text += "0"
	}
	var b []byte
	for ; text != ""; text = text[8:] {
		x := 0
		for _, c := range text[:8] {
			x = 2*x + int(c-'0')
		}
		b = append(b, byte(x))
	}
	return b
}

// text returns the bits of b as bitmap reads them.
func text(b []byte) string {
	var out strings.Builder
	for _, c := range b {
		for divisor := 128; divisor > 0; divisor /= 2 {
			out.WriteByte('0' + byte(int(c)/divisor%2))
		}
	}
	return out.String()
}

// plainHas is Has as the document words it, on a text.
func plainHas(text string, i int) bool { return i >= 0 && i < len(text) && text[i] == '1' }

// plainWith is With as the document words it, on a text.
func plainWith(text string, i int, taken bool) []byte {
	if i >= 0 {
		for len(text) <= i {
			text += "00000000"
		}
		bit := "0"
		if taken {
			bit = "1"
		}
		text = text[:i] + bit + text[i+1:]
	}
	return bitmap(strings.TrimRight(text, "0"))
}

// plainCount is Count as the document words it, on a text.
func plainCount(text string, n int) int {
	count := 0
	for i := 0; i < n; i++ {
		if plainHas(text, i) {
			count++
		}
	}
	return count
}

// plainFree returns all numbers below n that are not allocated.
func plainFree(text string, n int) []int {
	var l []int
	for i := 0; i < n; i++ {
		if !plainHas(text, i) {
			l = append(l, i)
		}
	}
	return l
}

// noise is the next of a fixed sequence of numbers without a visible pattern.
func noise(x *uint64) uint32 {
	*x = *x*6364136223846793005 + 1442695040888963407
	return uint32(*x >> 32)
}

// some returns n bytes of the sequence, many of which are 0 or 255.
func some(n int, x *uint64) []byte {
	b := make([]byte, n)
	for i := range b {
		switch noise(x) % 4 {
		case 0:
			b[i] = 0
		case 1:
			b[i] = 255
		default:
			b[i] = byte(noise(x))
		}
	}
	return b
}

func wantHas(t *testing.T, b []byte, i int, want bool) {
	t.Helper()
	if got := bits.Has(b, i); got != want {
		t.Errorf("Has(%v, %d) = %t", b, i, got)
	}
}

func wantWith(t *testing.T, b []byte, i int, taken bool, want []byte) {
	t.Helper()
	if got := bits.With(b, i, taken); !bytes.Equal(got, want) {
		t.Errorf("With(%v, %d, %t) = %v, want %v", b, i, taken, got, want)
	}
}

func wantCount(t *testing.T, b []byte, n, want int) {
	t.Helper()
	if got := bits.Count(b, n); got != want {
		t.Errorf("Count(%v, %d) = %d, want %d", b, n, got, want)
	}
}

func wantDraw(t *testing.T, b []byte, n, many int, want ...int) {
	t.Helper()
	if got, e := bits.Draw(b, n, many); e != api.OK || !slices.Equal(got, want) {
		t.Errorf("Draw(%v, %d, %d) = %v, %d, want %v", b, n, many, got, e, want)
	}
}

func wantNoDraw(t *testing.T, b []byte, n, many int, want api.Errno) {
	t.Helper()
	if got, e := bits.Draw(b, n, many); e != want || len(got) != 0 {
		t.Errorf("Draw(%v, %d, %d) = %v, %d, want nothing, %d", b, n, many, got, e, want)
	}
}

// P6.1

func TestHasKnown(t *testing.T) {
	cases := []struct {
		b []byte
		i int
	}{
		{[]byte{128}, 0},
		{[]byte{64}, 1},
		{[]byte{16}, 3},
		{[]byte{1}, 7},
		{[]byte{0, 128}, 8},
		{[]byte{0, 64}, 9},
		{[]byte{0, 1}, 15},
		{[]byte{0, 0, 0, 2}, 30},
	}
	for _, c := range cases {
		for i := range 8*len(c.b) + 20 {
			wantHas(t, c.b, i, i == c.i)
		}
	}
}

func TestHasEveryByte(t *testing.T) {
	for x := range 256 {
		b := []byte{255, byte(x), 255}
		s := text(b)
		for i := range len(s) {
			wantHas(t, b, i, s[i] == '1')
		}
	}
}

func TestHasOutside(t *testing.T) {
	outside := []int{math.MinInt, -1 << 32, -24, -17, -16, -15, -9, -8, -7, -2, -1, 16, 17, 23, 24, 1 << 32, 1<<32 + 3, math.MaxInt - 7, math.MaxInt}
	for _, i := range outside {
		wantHas(t, []byte{255, 255}, i, false)
	}
	for _, i := range append(outside, 0, 1, 7, 8) {
		wantHas(t, nil, i, false)
		wantHas(t, []byte{}, i, false)
		wantHas(t, []byte{255, 255}[:0], i, false) // bytes behind it are not its own
	}
}

func TestWithKnown(t *testing.T) {
	cases := []struct {
		b     []byte
		i     int
		taken bool
		want  []byte
	}{
		{nil, 9, true, []byte{0, 64}},
		{nil, 0, true, []byte{128}},
		{nil, 7, true, []byte{1}},
		{nil, 8, true, []byte{0, 128}},
		{nil, 40, true, []byte{0, 0, 0, 0, 0, 128}},
		{nil, 0, false, nil},
		{nil, 40, false, nil},
		{[]byte{}, 3, true, []byte{16}},
		{[]byte{128}, 3, true, []byte{144}},
		{[]byte{144}, 3, true, []byte{144}},
		{[]byte{144}, 3, false, []byte{128}},
		{[]byte{144}, 4, false, []byte{144}},
		{[]byte{144}, 8, false, []byte{144}},
		{[]byte{128}, 0, false, nil},
		{[]byte{255}, 7, false, []byte{254}},
		{[]byte{255}, 10, true, []byte{255, 32}},
		{[]byte{255, 255}, 0, false, []byte{127, 255}},
		{[]byte{0, 0, 0}, 30, false, nil},
		{[]byte{0, 0, 0}, 30, true, []byte{0, 0, 0, 2}},
	}
	for _, c := range cases {
		wantWith(t, c.b, c.i, c.taken, c.want)
	}
}

func TestWithTrailingZeros(t *testing.T) {
	wantWith(t, []byte{1, 0, 0}, 30, false, []byte{1})
	wantWith(t, []byte{1, 0, 0}, 20, false, []byte{1})
	wantWith(t, []byte{1, 0, 0}, 7, false, nil)
	wantWith(t, []byte{1, 0, 0}, 7, true, []byte{1})
	wantWith(t, []byte{1, 0, 0}, 9, true, []byte{1, 64})
	wantWith(t, []byte{1, 0, 0, 128}, 24, false, []byte{1})
	wantWith(t, []byte{0, 0, 0, 128}, 24, false, nil)
	wantWith(t, []byte{0, 0, 0, 128}, 0, true, []byte{128, 0, 0, 128})
	wantWith(t, []byte{0, 0, 0, 129}, 24, false, []byte{0, 0, 0, 1})
	wantWith(t, []byte{1, 0, '0', 0}, 0, false, []byte{1, 0, '0'})
}

func TestWithNegative(t *testing.T) {
	for _, i := range []int{math.MinInt, math.MinInt + 1, -1 << 32, -9, -8, -7, -1} {
		for _, taken := range []bool{false, true} {
			wantWith(t, nil, i, taken, nil)
			wantWith(t, []byte{0}, i, taken, nil)
			wantWith(t, []byte{170, 0, 85}, i, taken, []byte{170, 0, 85})
			wantWith(t, []byte{255, 0, 1, 0, 0}, i, taken, []byte{255, 0, 1})
		}
	}
}

func TestWithFarAway(t *testing.T) {
	for _, i := range []int{1 << 24, 1 << 32, 1<<32 + 3, math.MaxInt - 7, math.MaxInt} {
		wantWith(t, nil, i, false, nil)
		wantWith(t, []byte{170, 0, 0}, i, false, []byte{170})
	}
	b := bits.With([]byte{255}, 1<<24+1, true)
	if len(b) != 1<<21+1 || b[0] != 255 || b[1<<21] != 64 || bits.Count(b, math.MaxInt) != 9 {
		t.Errorf("%d bytes, %d items", len(b), bits.Count(b, math.MaxInt))
	}
}

// No memory has room for these results. Nothing is promised of them but an end.
func TestWithTooFarAwayEnds(t *testing.T) {
	for _, i := range []int{math.MaxInt/2 + 1, math.MaxInt - 8, math.MaxInt - 7, math.MaxInt} {
		bits.With(nil, i, true)
		bits.With([]byte{1, 0}, i, true)
	}
}

func TestWithIsNewMemory(t *testing.T) {
	cases := []struct {
		i     int
		taken bool
	}{
		{0, true}, {0, false}, {3, true}, {12, true}, {12, false}, {16, true}, {30, true}, {30, false}, {-1, true}, {-1, false},
	}
	for _, c := range cases {
		room := []byte{144, 1, 7, 8, 9}
		b := room[:2] // an extension must neither reach into the bytes behind it, nor take them over
		first := bits.With(b, c.i, c.taken)
		second := bits.With(b, c.i, c.taken)
		if !bytes.Equal(first, plainWith(text(b), c.i, c.taken)) {
			t.Errorf("With(%v, %d, %t) = %v", b, c.i, c.taken, first)
		}
		want := bytes.Clone(second)
		for i := range first {
			first[i] ^= 255
		}
		_ = append(first, 77, 77, 77)
		if !bytes.Equal(room, []byte{144, 1, 7, 8, 9}) {
			t.Errorf("With(.., %d, %t): the argument became %v", c.i, c.taken, room)
		}
		clear(room)
		if !bytes.Equal(second, want) {
			t.Errorf("With(.., %d, %t): the result became %v", c.i, c.taken, second)
		}
	}
}

func TestWithMany(t *testing.T) {
	seed := uint64(1)
	for range 3000 {
		b := some(int(noise(&seed)%6), &seed)
		s := text(b)
		i := int(noise(&seed)%60) - 5
		for _, taken := range []bool{false, true} {
			wantWith(t, b, i, taken, plainWith(s, i, taken))
			after := bits.With(b, i, taken)
			for k := -3; k < 70; k++ {
				want := plainHas(s, k)
				if k == i && k >= 0 {
					want = taken
				}
				wantHas(t, after, k, want)
			}
			wantWith(t, after, i, taken, after)
		}
		if text(b) != s {
			t.Errorf("the argument %s became %s", s, text(b))
		}
	}
}

// P6.2

func TestCountKnown(t *testing.T) {
	b := []byte{144, 0, 255, 1}
	for n, want := range map[int]int{0: 0, 1: 1, 3: 1, 4: 2, 8: 2, 16: 2, 17: 3, 23: 9, 24: 10, 31: 10, 32: 11, 33: 11, 100: 11, 1 << 32: 11, math.MaxInt: 11} {
		wantCount(t, b, n, want)
	}
	for _, n := range []int{math.MinInt, -1 << 32, -32, -8, -1} {
		wantCount(t, b, n, 0)
		wantCount(t, []byte{255}, n, 0)
	}
	for _, n := range []int{math.MinInt, -1, 0, 1, 8, math.MaxInt} {
		wantCount(t, nil, n, 0)
		wantCount(t, []byte{}, n, 0)
		wantCount(t, []byte{255, 255}[:0], n, 0)
		wantCount(t, []byte{0, 0, 0}, n, 0)
	}
}

func TestCountMany(t *testing.T) {
	seed := uint64(2)
	for range 300 {
		b := some(int(noise(&seed)%6), &seed)
		s := text(b)
		for n := -3; n < 60; n++ {
			wantCount(t, b, n, plainCount(s, n))
		}
		if text(b) != s {
			t.Errorf("the argument %s became %s", s, text(b))
		}
	}
}

func TestDrawKnown(t *testing.T) {
	b := []byte{144} // 0 and 3
	wantDraw(t, b, 6, 3, 1, 2, 4)
	wantDraw(t, b, 6, 4, 1, 2, 4, 5)
	wantNoDraw(t, b, 6, 5, api.ErrNoSpc)
	wantDraw(t, b, 6, 1, 1)
	wantDraw(t, b, 10, 8, 1, 2, 4, 5, 6, 7, 8, 9)
	wantNoDraw(t, b, 10, 9, api.ErrNoSpc)
	wantDraw(t, []byte{255, 0, 255}, 32, 10, 8, 9, 10, 11, 12, 13, 14, 15, 24, 25)
	wantDraw(t, nil, 3, 3, 0, 1, 2)
	wantNoDraw(t, nil, 3, 4, api.ErrNoSpc)
	wantDraw(t, nil, 1, 1, 0)
	wantNoDraw(t, []byte{128}, 1, 1, api.ErrNoSpc)
	wantNoDraw(t, []byte{255, 255}, 16, 1, api.ErrNoSpc)
	wantDraw(t, []byte{255, 255}, 17, 1, 16)
	wantNoDraw(t, []byte{255, 0}, 8, 1, api.ErrNoSpc)
}

func TestDrawOfNothing(t *testing.T) {
	for _, n := range []int{math.MinInt, -8, -1, 0, 1, 8, 1 << 32, math.MaxInt} {
		wantDraw(t, nil, n, 0)
		wantDraw(t, []byte{0}, n, 0)
		wantDraw(t, []byte{255, 255}, n, 0)
	}
}

func TestDrawOfFewerThanNothing(t *testing.T) {
	for _, many := range []int{math.MinInt, -1 << 32, -2, -1} {
		for _, n := range []int{math.MinInt, -1, 0, 1, 8, math.MaxInt} {
			wantNoDraw(t, nil, n, many, api.ErrArg)
			wantNoDraw(t, []byte{255}, n, many, api.ErrArg)
		}
	}
}

func TestDrawFromNothing(t *testing.T) {
	for _, n := range []int{math.MinInt, -1 << 32, -8, -1, 0} {
		for _, many := range []int{1, 2, 1 << 32, math.MaxInt} {
			wantNoDraw(t, nil, n, many, api.ErrNoSpc)
			wantNoDraw(t, []byte{255, 0}, n, many, api.ErrNoSpc)
		}
	}
}

func TestDrawFarNumbers(t *testing.T) {
	full := bytes.Repeat([]byte{255}, 1000)
	for _, n := range []int{8010, 1 << 32, math.MaxInt} {
		wantDraw(t, full, n, 3, 8000, 8001, 8002)
	}
	wantNoDraw(t, full, 8002, 3, api.ErrNoSpc)
	wantNoDraw(t, full, 8002, math.MaxInt, api.ErrNoSpc)
	wantNoDraw(t, nil, 1<<40, 1<<40+1, api.ErrNoSpc)
	wantNoDraw(t, []byte{1}, 1<<40, 1<<40, api.ErrNoSpc)
	wantNoDraw(t, []byte{1}, math.MaxInt, math.MaxInt, api.ErrNoSpc)
}

// No memory has room for these results. Nothing is promised of them but an end.
func TestDrawOfTooManyEnds(t *testing.T) {
	bits.Draw(nil, math.MaxInt, math.MaxInt)
	bits.Draw([]byte{1}, math.MaxInt, 1<<40)
}

func TestDrawEveryByte(t *testing.T) {
	for x := range 256 {
		b := []byte{byte(x)}
		for n := range 12 {
			all := plainFree(text(b), n)
			for many := range 14 {
				if many > len(all) {
					wantNoDraw(t, b, n, many, api.ErrNoSpc)
				} else {
					wantDraw(t, b, n, many, all[:many]...)
				}
			}
		}
		if b[0] != byte(x) {
			t.Errorf("the argument %d became %d", x, b[0])
		}
	}
}

func TestDrawIsNewMemory(t *testing.T) {
	b := []byte{144, 255}
	first, _ := bits.Draw(b, 40, 4)
	second, _ := bits.Draw(b, 40, 4)
	clear(first)
	if !slices.Equal(second, []int{1, 2, 4, 5}) {
		t.Errorf("a change of one result changed another one to %v", second)
	}
	wantDraw(t, b, 40, 4, 1, 2, 4, 5)
}

// P6.3

func TestDrawnAreFreeAndSmallest(t *testing.T) {
	seed := uint64(3)
	for range 2000 {
		b := some(int(noise(&seed)%8), &seed)
		n := int(noise(&seed) % 80)
		many := int(noise(&seed) % 20)
		l, e := bits.Draw(b, n, many)
		if e != api.OK {
			if e != api.ErrNoSpc || n-bits.Count(b, n) >= many {
				t.Errorf("Draw(%v, %d, %d) returned %d", b, n, many, e)
			}
			continue
		}
		next := 0
		for _, i := range l {
			if bits.Has(b, i) || i < next || i >= n {
				t.Errorf("Draw(%v, %d, %d) = %v", b, n, many, l)
			}
			for ; next < i; next++ {
				wantHas(t, b, next, true)
			}
			next = i + 1
		}
		if len(l) != many {
			t.Errorf("Draw(%v, %d, %d) = %v", b, n, many, l)
		}
	}
}

func TestDrawUntilFull(t *testing.T) {
	seed := uint64(4)
	for range 100 {
		b := some(int(noise(&seed)%6), &seed)
		n := int(noise(&seed)%60) + 1
		taken := bits.Count(b, n)
		for taken < n {
			many := int(noise(&seed))%(n-taken) + 1
			l, e := bits.Draw(b, n, many)
			if e != api.OK {
				t.Fatalf("Draw(%v, %d, %d) returned %d", b, n, many, e)
			}
			for _, i := range l {
				b = bits.With(b, i, true)
			}
			taken += many
			wantCount(t, b, n, taken)
		}
		wantNoDraw(t, b, n, 1, api.ErrNoSpc)
		for i := range n {
			wantHas(t, b, i, true)
			b = bits.With(b, i, false)
			wantDraw(t, b, n, 1, 0)
		}
		wantCount(t, b, n, 0)
	}
}
