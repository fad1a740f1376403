package crc_test

import (
	"bytes"
	"testing"

	"removalist/crc"
)

// plain is the checksum bit by bit, as the document words it.
func plain(b []byte) uint32 {
	x := uint64(4294967295)
	for _, c := range b {
		x ^= uint64(c) * (1 << 24)
		for range 8 {
			high := x >= 1<<31
			x = 2 * x % (1 << 32)
			if high {
				x ^= 79764919
			}
		}
	}
	return uint32(4294967295 - x)
}

// noise is the next of a fixed sequence of numbers without a visible pattern.
func noise(x *uint64) uint32 {
	*x = *x*6364136223846793005 + 1442695040888963407
	return uint32(*x >> 32)
}

// some returns n bytes of the sequence.
func some(n int, x *uint64) []byte {
	b := make([]byte, n)
	for i := range b {
		b[i] = byte(noise(x))
	}
	return b
}

// P2.1

func TestOfKnown(t *testing.T) {
	cases := []struct {
		b    []byte
		want uint32
	}{
		{nil, 0},
		{[]byte{}, 0},
		{[]byte("123456789"), 4236843288},
		{[]byte{0}, 0xb1f7404b},
		{[]byte{0, 0, 0, 0}, 0x38fb2284},
		{[]byte{255, 255, 255, 255}, 0xffffffff},
	}
	for _, c := range cases {
		if got := crc.Of(c.b); got != c.want {
			t.Errorf("Of(%v) = %d, want %d", c.b, got, c.want)
		}
	}
}

func TestOfEveryByte(t *testing.T) {
	for i := range 256 {
		b := []byte{byte(i)}
		if got, want := crc.Of(b), plain(b); got != want {
			t.Errorf("Of(%v) = %d, want %d", b, got, want)
		}
	}
}

func TestOfEveryLength(t *testing.T) {
	seed := uint64(1)
	for n := range 300 {
		b := some(n, &seed)
		if got, want := crc.Of(b), plain(b); got != want {
			t.Errorf("Of(%d bytes) = %d, want %d", n, got, want)
		}
	}
	long := some(1<<20, &seed)
	if got, want := crc.Of(long), plain(long); got != want {
		t.Errorf("Of(%d bytes) = %d, want %d", len(long), got, want)
	}
}

func TestOfOrder(t *testing.T) {
	if crc.Of([]byte("ab")) == crc.Of([]byte("ba")) {
		t.Error("the order of bytes has no effect")
	}
	if crc.Of([]byte{0}) == crc.Of([]byte{0, 0}) {
		t.Error("the number of zero bytes has no effect")
	}
}

func TestMoreEverySplit(t *testing.T) {
	seed := uint64(2)
	for n := range 40 {
		b := some(n, &seed)
		for i := range n + 1 {
			if got, want := crc.More(crc.Of(b[:i]), b[i:]), plain(b); got != want {
				t.Errorf("More of %d bytes after %d = %d, want %d", n-i, i, got, want)
			}
		}
	}
}

func TestMoreByteByByte(t *testing.T) {
	sum := crc.Of(nil)
	for _, c := range []byte("123456789") {
		sum = crc.More(sum, []byte{c})
	}
	if sum != 4236843288 {
		t.Error(sum)
	}
}

func TestMoreOfNothing(t *testing.T) {
	for _, sum := range []uint32{0, 1, 5, 1 << 31, 4294967295} {
		if got := crc.More(sum, nil); got != sum {
			t.Errorf("More(%d, nil) = %d", sum, got)
		}
		if got := crc.More(sum, []byte{}); got != sum {
			t.Errorf("More(%d, empty) = %d", sum, got)
		}
	}
}

func TestArgumentsUnchanged(t *testing.T) {
	b := []byte("123456789")
	crc.Of(b)
	crc.More(7, b)
	crc.Sealed(b)
	crc.Right(b)
	if string(b) != "123456789" {
		t.Error(b)
	}
}

// P2.2

func TestSealedKnown(t *testing.T) {
	cases := []struct{ b, want []byte }{
		{nil, []byte{0, 0, 0, 0}},
		{[]byte{}, []byte{0, 0, 0, 0}},
		{[]byte{0}, []byte{0, 0xb1, 0xf7, 0x40, 0x4b}},
		{[]byte("123456789"), append([]byte("123456789"), 0xfc, 0x89, 0x19, 0x18)},
	}
	for _, c := range cases {
		if got := crc.Sealed(c.b); !bytes.Equal(got, c.want) {
			t.Errorf("Sealed(%v) = %v, want %v", c.b, got, c.want)
		}
	}
}

func TestSealedIsNewMemory(t *testing.T) {
	room := []byte("abcdefghij")
	b := room[:2]
	first := crc.Sealed(b)
	second := crc.Sealed(b)
	if string(room) != "abcdefghij" {
		t.Errorf("bytes behind the argument became %q", room)
	}
	for i := range first {
		first[i] ^= 255
	}
	if string(room) != "abcdefghij" || !bytes.Equal(second, crc.Sealed(b)) {
		t.Error("a change of the result changed something else")
	}
	b[0] = 'x'
	if second[0] != 'a' {
		t.Error("a change of the argument changed the result")
	}
}

func TestRightOfSealed(t *testing.T) {
	seed := uint64(3)
	for n := range 200 {
		b := crc.Sealed(some(n, &seed))
		if len(b) != n+4 || !crc.Right(b) {
			t.Errorf("Sealed of %d bytes has %d bytes and is not right", n, len(b))
		}
		if !crc.Right(crc.Sealed(b)) {
			t.Errorf("sealed twice, %d bytes are not right", n)
		}
	}
}

func TestRightOfTooFewBytes(t *testing.T) {
	for _, b := range [][]byte{nil, {}, {0}, {0, 0}, {0, 0, 0}} {
		if crc.Right(b) {
			t.Errorf("%v is right", b)
		}
	}
}

func TestRightOfFourBytes(t *testing.T) {
	if !crc.Right([]byte{0, 0, 0, 0}) {
		t.Error("the checksum of nothing is not right")
	}
	for _, b := range [][]byte{{0, 0, 0, 1}, {1, 0, 0, 0}, {255, 255, 255, 255}} {
		if crc.Right(b) {
			t.Errorf("%v is right", b)
		}
	}
}

func TestRightOfWrongBytes(t *testing.T) {
	b := crc.Sealed([]byte("123456789"))
	wrong := [][]byte{
		b[:len(b)-1],
		b[1:],
		append(bytes.Clone(b), 0),
		append([]byte("123456789"), 0x18, 0x19, 0x89, 0xfc), // the least significant byte first
		append([]byte("123456789"), 0x03, 0x76, 0xe6, 0xe7), // not inverted
		[]byte("123456789"),
	}
	for _, w := range wrong {
		if crc.Right(w) {
			t.Errorf("%v is right", w)
		}
	}
}

// P2.3

// differ returns b with the bits of pattern inverted, its most significant bit at the bit of that index.
func differ(b []byte, index int, pattern uint64, width int) []byte {
	out := bytes.Clone(b)
	for i := range width {
		if pattern>>(width-1-i)&1 == 1 {
			out[(index+i)/8] ^= 128 >> ((index + i) % 8)
		}
	}
	return out
}

func TestDifferenceWithin32Bits(t *testing.T) {
	seed := uint64(4)
	patterns := []uint64{4294967295, 79764919, 0x82608edb, 0x80000001}
	for i := range 32 {
		for j := range i + 1 {
			patterns = append(patterns, 1<<i|1<<j)
		}
	}
	for range 200 {
		patterns = append(patterns, uint64(noise(&seed)|1))
	}
	for _, n := range []int{0, 1, 2, 3, 4, 9, 40} {
		b := crc.Sealed(some(n, &seed))
		for index := range len(b)*8 - 31 {
			for _, p := range patterns {
				if crc.Right(differ(b, index, p, 32)) {
					t.Fatalf("%d bytes: also right with a difference of %x from bit %d", n, p, index)
				}
			}
		}
	}
}

// The least difference that goes unseen is the generator itself, with its highest term: 33 bits. It shows that the order of the bits is the promised one.
func TestDifferenceOf33Bits(t *testing.T) {
	seed := uint64(5)
	b := crc.Sealed(some(20, &seed))
	for index := range len(b)*8 - 32 {
		if !crc.Right(differ(b, index, 1<<32|79764919, 33)) {
			t.Fatalf("not right with the generator added from bit %d", index)
		}
	}
}
