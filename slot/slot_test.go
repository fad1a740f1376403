package slot_test

import (
	"bytes"
	"encoding/binary"
	"math"
	"slices"
	"strings"
	"testing"

	"removalist/api"
	"removalist/dir"
	"removalist/slot"
)

// noise is the next of a fixed sequence of numbers without a visible pattern.
func noise(x *uint64) uint32 {
	*x = *x*6364136223846793005 + 1442695040888963407
	return uint32(*x >> 32)
}

// below is noise from 0 to n-1.
func below(x *uint64, n int) int { return int(noise(x) % uint32(n)) }

// wide is noise of 64 bits.
func wide(x *uint64) uint64 { return uint64(noise(x))<<32 | uint64(noise(x)) }

// patterned returns n bytes, no two neighbours of which are equal.
func patterned(n int) []byte {
	var b []byte
	for i := range n {
		b = append(b, byte(i*7+1))
	}
	return b
}

// sized returns a file of so many bytes.
func sized(n int) slot.Slot {
	return slot.Slot{Ino: 1, Kind: api.File, Gen: 2, Links: 1, Data: patterned(n)}
}

// directory returns one whose Data is these entries, as the document encodes them, whether or not they are valid.
func directory(cookie uint64, l ...dir.Entry) slot.Slot {
	var b []byte
	for _, e := range l {
		b = binary.BigEndian.AppendUint64(b, e.Cookie)
		b = binary.BigEndian.AppendUint32(b, e.Handle.Ino)
		b = binary.BigEndian.AppendUint32(b, e.Handle.Gen)
		b = appendOpaque(b, []byte(e.Name))
	}
	return slot.Slot{Ino: 3, Kind: api.Dir, Gen: 4, Links: 2, Cookie: cookie, Data: b}
}

func appendOpaque(b, body []byte) []byte {
	b = binary.BigEndian.AppendUint32(b, uint32(len(body)))
	b = append(b, body...)
	for len(b)%4 != 0 {
		b = append(b, 0)
	}
	return b
}

// plainBytes encodes s as the document words it, whether or not s can be a slot.
func plainBytes(s slot.Slot) []byte {
	var b []byte
	for _, x := range []uint32{s.Ino, s.Kind, s.Gen, s.Links, s.Mode} {
		b = binary.BigEndian.AppendUint32(b, x)
	}
	for _, x := range []uint64{s.Change, s.Cookie, s.Verf} {
		b = binary.BigEndian.AppendUint64(b, x)
	}
	return appendOpaque(b, s.Data)
}

// plainCheck is Check as the document words it.
func plainCheck(s slot.Slot) bool {
	if s.Ino > 23 || s.Kind > 3 || len(s.Data) > 768 {
		return false
	}
	if s.Kind == 0 {
		return s.Links == 0 && s.Mode == 0 && s.Cookie == 0 && s.Verf == 0 && len(s.Data) == 0
	}
	if s.Kind == 2 {
		l, e := dir.Get(s.Data)
		if e != api.OK {
			return false
		}
		for _, x := range l {
			if x.Cookie > s.Cookie {
				return false
			}
		}
	}
	return s.Links >= 1
}

// plainSame is Same as the document words it.
func plainSame(a, b slot.Slot) bool {
	return a.Ino == b.Ino && a.Kind == b.Kind && a.Gen == b.Gen && a.Links == b.Links && a.Mode == b.Mode &&
		a.Change == b.Change && a.Cookie == b.Cookie && a.Verf == b.Verf && string(a.Data) == string(b.Data)
}

// wantCheck asks Put and Get too, which have the answers of Check.
func wantCheck(t *testing.T, s slot.Slot, want api.Errno) {
	t.Helper()
	if e := slot.Check(s); e != want {
		t.Errorf("Check(%v) = %d, want %d", s, e, want)
	}
	if want == api.OK {
		wantBothWays(t, s)
		return
	}
	if b, e := slot.Put(s); e != want || len(b) != 0 {
		t.Errorf("Put(%v) = %v, %d, want nothing, %d", s, b, e, want)
	}
	if len(s.Data) <= 768 {
		wantNoGet(t, plainBytes(s), api.ErrForm)
	}
}

func wantBothWays(t *testing.T, s slot.Slot) {
	t.Helper()
	want := plainBytes(s)
	if b, e := slot.Put(s); e != api.OK || !bytes.Equal(b, want) {
		t.Errorf("Put(%v) = %v, %d, want %v", s, b, e, want)
	}
	if got, e := slot.Get(want); e != api.OK || !plainSame(got, s) {
		t.Errorf("Get(%v) = %v, %d, want %v", want, got, e, s)
	}
}

func wantNoGet(t *testing.T, b []byte, want api.Errno) {
	t.Helper()
	if s, e := slot.Get(b); e != want || !plainSame(s, slot.Slot{}) {
		t.Errorf("Get(%v) = %v, %d, want nothing, %d", b, s, e, want)
	}
}

func wantSame(t *testing.T, a, b slot.Slot, want bool) {
	t.Helper()
	if slot.Same(a, b) != want || slot.Same(b, a) != want {
		t.Errorf("Same(%v, %v) is not %v both ways", a, b, want)
	}
}

// P11.1

func TestCheckIno(t *testing.T) {
	for _, s := range []slot.Slot{{}, {Gen: 3, Change: 4}, sized(0), sized(300), directory(9), {Kind: api.Link, Links: 1, Data: []byte("to")}} {
		for ino := range uint32(24) {
			s.Ino = ino
			wantCheck(t, s, api.OK)
		}
		for _, ino := range []uint32{24, 25, 31, 32, 255, 256, 1 << 16, math.MaxInt32, 1 << 31, 1<<31 + 1, math.MaxUint32} {
			s.Ino = ino
			wantCheck(t, s, api.ErrArg)
		}
	}
}

func TestCheckKinds(t *testing.T) {
	for _, kind := range []uint32{api.File, api.Dir, api.Link} {
		wantCheck(t, slot.Slot{Kind: kind, Links: 1}, api.OK)
		wantCheck(t, slot.Slot{Kind: kind, Links: math.MaxUint32}, api.OK)
		wantCheck(t, slot.Slot{Kind: kind}, api.ErrArg)
		wantCheck(t, slot.Slot{Ino: 1, Kind: kind, Gen: 1, Mode: 1, Change: 1, Cookie: 1, Verf: 1}, api.ErrArg)
		s := slot.Slot{Ino: 23, Kind: kind, Gen: math.MaxUint32, Links: 1, Mode: math.MaxUint32}
		s.Change, s.Cookie, s.Verf = math.MaxUint64, math.MaxUint64, math.MaxUint64
		wantCheck(t, s, api.OK)
	}
	for _, kind := range []uint32{4, 5, 6, 7, 255, 256, 257, 258, 1 << 16, 1 << 31, 1<<31 + 1, 1<<31 + 2, math.MaxUint32} {
		wantCheck(t, slot.Slot{Kind: kind, Links: 1}, api.ErrArg)
		wantCheck(t, slot.Slot{Kind: kind}, api.ErrArg)
	}
}

func TestCheckFree(t *testing.T) {
	allowed := []slot.Slot{
		{}, {Ino: 23}, {Gen: 1}, {Gen: math.MaxUint32}, {Change: 1}, {Change: math.MaxUint64}, {Ino: 5, Gen: 2, Change: 3}, {Data: []byte{}},
	}
	for _, s := range allowed {
		wantCheck(t, s, api.OK)
	}
	refused := []slot.Slot{
		{Links: 1}, {Mode: 1}, {Cookie: 1}, {Verf: 1}, {Data: []byte{0}}, {Data: []byte("abcd")}, {Data: make([]byte, 768)},
		{Links: 1 << 31}, {Mode: 1 << 31}, {Cookie: 1 << 32}, {Verf: 1 << 32}, {Cookie: 1 << 63}, {Verf: 1 << 63},
	}
	for _, s := range refused {
		wantCheck(t, s, api.ErrArg)
		s.Ino, s.Gen, s.Change = 7, 5, 6
		wantCheck(t, s, api.ErrArg)
	}
}

func TestCheckEveryLength(t *testing.T) {
	for _, kind := range []uint32{api.File, api.Link} {
		for n := range 790 {
			s := sized(n)
			s.Kind = kind
			want := api.OK
			if n > 768 {
				want = api.ErrArg
			}
			wantCheck(t, s, want)
		}
	}
	for _, n := range []int{1024, 1 << 16, 1 << 20} {
		if e := slot.Check(sized(n)); e != api.ErrArg {
			t.Errorf("Check of %d bytes = %d", n, e)
		}
	}
}

func TestCheckEntries(t *testing.T) {
	h := api.Handle{Ino: 9, Gen: 1}
	a, b, c := dir.Entry{Cookie: 1, Handle: h, Name: "a"}, dir.Entry{Cookie: 5, Handle: h, Name: "b"}, dir.Entry{Cookie: math.MaxUint64, Name: "c"}
	known := []struct {
		s    slot.Slot
		want api.Errno
	}{
		{directory(0), api.OK},
		{directory(7), api.OK},
		{directory(0, a), api.ErrArg},
		{directory(1, a), api.OK},
		{directory(2, a), api.OK},
		{directory(4, a, b), api.ErrArg},
		{directory(5, a, b), api.OK},
		{directory(math.MaxUint64, a, b), api.OK},
		{directory(1<<32, a, dir.Entry{Cookie: 1<<32 + 1, Name: "d"}), api.ErrArg},
		{directory(1<<32+1, a, dir.Entry{Cookie: 1<<32 + 1, Name: "d"}), api.OK},
		{directory(5, a, b, c), api.ErrArg},
		{directory(math.MaxUint64-1, a, b, c), api.ErrArg},
		{directory(math.MaxUint64, a, b, c), api.OK},
		{directory(9, b, a), api.ErrArg},
		{directory(9, a, a), api.ErrArg},
		{directory(9, a, dir.Entry{Cookie: 2, Name: "a"}), api.ErrArg},
		{directory(9, a, dir.Entry{Cookie: 2, Name: "."}), api.ErrArg},
		{directory(9, a, dir.Entry{Cookie: 2, Name: ""}), api.ErrArg},
		{directory(9, a, dir.Entry{Cookie: 2, Name: "x/y"}), api.ErrArg},
		{directory(9, dir.Entry{Cookie: 0, Name: "a"}), api.ErrArg},
		{directory(9, dir.Entry{Cookie: 1, Name: strings.Repeat("n", 24)}), api.OK},
		{directory(9, dir.Entry{Cookie: 1, Name: strings.Repeat("n", 25)}), api.ErrArg},
	}
	for _, k := range known {
		wantCheck(t, k.s, k.want)
	}
}

func TestCheckDamagedEntries(t *testing.T) {
	whole := directory(9, dir.Entry{Cookie: 1, Name: "a"}, dir.Entry{Cookie: 5, Name: "bcd"})
	for n := range len(whole.Data) {
		s := whole
		s.Data = whole.Data[:n]
		want := api.ErrArg
		if n == 0 || n == 24 { // no entry, or the first one alone
			want = api.OK
		}
		wantCheck(t, s, want)
		s.Kind = api.File // bytes of any other kind are not entries
		wantCheck(t, s, api.OK)
	}
	s := whole
	s.Data = bytes.Clone(whole.Data)
	s.Data[21] = 1 // behind the name
	wantCheck(t, s, api.ErrArg)
}

func TestCheckLengthOfEntries(t *testing.T) {
	var l []dir.Entry
	for i := range 17 { // of 44 bytes each, with 20 left
		l = append(l, dir.Entry{Cookie: uint64(i) + 1, Name: strings.Repeat(string(rune('a'+i)), 24)})
	}
	wantCheck(t, directory(20, l...), api.OK)
	l[0].Name = "a"
	l = append(l, dir.Entry{Cookie: 18, Name: strings.Repeat("z", 20)})
	full := directory(20, l...)
	if len(full.Data) != 768 {
		t.Fatalf("%d bytes of entries", len(full.Data))
	}
	wantCheck(t, full, api.OK)
	l[0].Name = "abcde"
	wantCheck(t, directory(20, l...), api.ErrArg)
}

func TestArgumentsAreNotChanged(t *testing.T) {
	for _, whole := range []slot.Slot{sized(200), directory(9, dir.Entry{Cookie: 1, Name: "a"}, dir.Entry{Cookie: 5, Name: "bcd"})} {
		s := whole
		s.Data = bytes.Clone(whole.Data)[:20]
		slot.Check(s)
		slot.Put(s)
		slot.Same(s, whole)
		slot.Handle(s)
		s.Data = s.Data[:len(whole.Data)]
		if !plainSame(s, whole) {
			t.Errorf("%v became %v", whole, s)
		}
		b := plainBytes(whole)
		for _, part := range [][]byte{b, b[:60], b[:0]} {
			slot.Get(part)
		}
		if !bytes.Equal(b, plainBytes(whole)) {
			t.Errorf("the bytes became %v", b)
		}
	}
}

// P11.2

func TestPutFree(t *testing.T) {
	for _, s := range []slot.Slot{{}, {Ino: 23, Gen: 7, Change: 8}} {
		if b, e := slot.Put(s); e != api.OK || len(b) != 48 || !bytes.Equal(b, plainBytes(s)) {
			t.Errorf("Put(%v) = %v, %d", s, b, e)
		}
	}
	if s, e := slot.Get(make([]byte, 48)); e != api.OK || !plainSame(s, slot.Slot{}) {
		t.Errorf("Get of 48 zero bytes = %v, %d", s, e)
	}
}

func TestPutEveryField(t *testing.T) {
	s := slot.Slot{Ino: 0x17, Kind: api.Link, Gen: 0x01020304, Links: 0x05060708, Mode: 0x090a0b0c}
	s.Change, s.Cookie, s.Verf = 0x1112131415161718, 0x191a1b1c1d1e1f20, 0x2122232425262728
	s.Data = []byte("hello")
	want := []byte{
		0, 0, 0, 0x17, 0, 0, 0, 3, 1, 2, 3, 4, 5, 6, 7, 8, 9, 10, 11, 12,
		0x11, 0x12, 0x13, 0x14, 0x15, 0x16, 0x17, 0x18,
		0x19, 0x1a, 0x1b, 0x1c, 0x1d, 0x1e, 0x1f, 0x20,
		0x21, 0x22, 0x23, 0x24, 0x25, 0x26, 0x27, 0x28,
		0, 0, 0, 5, 'h', 'e', 'l', 'l', 'o', 0, 0, 0,
	}
	if b, e := slot.Put(s); e != api.OK || !bytes.Equal(b, want) {
		t.Errorf("Put(%v) = %v, %d, want %v", s, b, e, want)
	}
	if got, e := slot.Get(want); e != api.OK || !plainSame(got, s) {
		t.Errorf("Get(%v) = %v, %d, want %v", want, got, e, s)
	}
}

func TestPutIsNewMemory(t *testing.T) {
	s := sized(300)
	first, _ := slot.Put(s)
	second, _ := slot.Put(s)
	clear(first)
	clear(s.Data)
	if !bytes.Equal(second, plainBytes(sized(300))) {
		t.Errorf("the result became %v", second)
	}
}

func TestGetTooShort(t *testing.T) {
	wantNoGet(t, nil, api.ErrShort)
	wantNoGet(t, []byte{}, api.ErrShort)
	wantNoGet(t, plainBytes(sized(9))[:0], api.ErrShort) // bytes behind it are not its own
	for _, n := range []int{0, 1, 2, 3, 4, 5, 97, 768} {
		b := plainBytes(sized(n))
		for size := range len(b) {
			wantNoGet(t, b[:size], api.ErrShort)
		}
	}
}

func TestGetBytesLeft(t *testing.T) {
	for _, n := range []int{0, 1, 4, 97, 768} {
		b := plainBytes(sized(n))
		for range 40 {
			b = append(b, 0)
			wantNoGet(t, b, api.ErrLeft)
		}
	}
}

func TestGetTooMuchData(t *testing.T) {
	for _, length := range []uint32{769, 770, 1024, 1 << 16, math.MaxInt32, 1 << 31, 1<<31 + 1, math.MaxUint32 - 3, math.MaxUint32} {
		b := plainBytes(sized(0))
		binary.BigEndian.PutUint32(b[44:], length)
		for range 20 { // neither bytes that are missing nor bytes that are left come first
			wantNoGet(t, b, api.ErrBig)
			b = append(b, 1)
		}
		wantNoGet(t, b[:47], api.ErrShort)
	}
	for _, s := range []slot.Slot{sized(769), sized(772), {Ino: 24, Data: patterned(769)}, {Kind: 4, Data: patterned(800)}, {Kind: api.Dir, Links: 1, Data: patterned(800)}} {
		wantNoGet(t, plainBytes(s), api.ErrBig)
		wantNoGet(t, plainBytes(s)[:60], api.ErrBig)
		wantNoGet(t, append(plainBytes(s), 0), api.ErrBig)
	}
}

func TestGetPadding(t *testing.T) {
	for n := 1; n < 12; n++ {
		b := plainBytes(sized(n))
		for i := 48 + n; i < len(b); i++ {
			b[i] = 1
			wantNoGet(t, b, api.ErrForm)
			wantNoGet(t, append(bytes.Clone(b), 0), api.ErrForm) // that of xdr comes ahead of bytes that are left
			wantNoGet(t, b[:len(b)-1], api.ErrShort)
			b[i] = 0
		}
	}
}

func TestGetRefusesWhatCheckRefuses(t *testing.T) {
	refused := []slot.Slot{
		{Ino: 24}, {Ino: 1 << 31}, {Kind: 4, Links: 1}, {Kind: math.MaxUint32, Links: 1},
		{Kind: api.File}, {Kind: api.Dir}, {Kind: api.Link, Gen: 7},
		{Links: 1}, {Mode: 1}, {Cookie: 1}, {Verf: 1}, {Data: []byte("abc")},
		directory(4, dir.Entry{Cookie: 5, Name: "a"}), directory(5, dir.Entry{Cookie: 5, Name: ".."}),
		{Kind: api.Dir, Links: 1, Data: []byte("x")},                                             // too short for dir
		{Kind: api.Dir, Links: 1, Cookie: 9, Data: append(make([]byte, 16), 255, 255, 255, 255)}, // too big for dir
	}
	for _, s := range refused {
		b := plainBytes(s)
		wantNoGet(t, b, api.ErrForm)
		wantNoGet(t, append(bytes.Clone(b), 0), api.ErrLeft)
		wantNoGet(t, b[:len(b)-1], api.ErrShort)
	}
}

func TestGetIsNewMemory(t *testing.T) {
	want := sized(301)
	b := plainBytes(want)
	first, _ := slot.Get(b)
	second, _ := slot.Get(b)
	clear(first.Data)
	_ = append(first.Data, 9)
	clear(b)
	if !plainSame(second, want) {
		t.Errorf("the result became %v", second)
	}
}

// changed returns slots that are each like s but for one field.
func changed(s slot.Slot) []slot.Slot {
	var out []slot.Slot
	for _, bit := range []int{0, 1, 7, 8, 31, 32, 63} {
		small, big := uint32(1)<<(bit%32), uint64(1)<<bit
		l := []slot.Slot{s, s, s, s, s, s, s, s}
		l[0].Ino ^= small
		l[1].Kind ^= small
		l[2].Gen ^= small
		l[3].Links ^= small
		l[4].Mode ^= small
		l[5].Change ^= big
		l[6].Cookie ^= big
		l[7].Verf ^= big
		out = append(out, l...)
	}
	return out
}

func TestSame(t *testing.T) {
	seed := uint64(3)
	for _, n := range []int{0, 1, 5, 100} {
		s := slot.Slot{Ino: noise(&seed), Kind: noise(&seed), Gen: noise(&seed), Links: noise(&seed), Mode: noise(&seed), Data: patterned(n)}
		s.Change, s.Cookie, s.Verf = wide(&seed), wide(&seed), wide(&seed)
		like := s
		like.Data = bytes.Clone(s.Data)
		wantSame(t, s, s, true)
		wantSame(t, s, like, true)
		for _, other := range changed(s) {
			wantSame(t, s, other, false)
			wantSame(t, other, other, true)
		}
		like.Data = append(like.Data, 0)
		wantSame(t, s, like, false)
		for i := range n {
			like.Data = bytes.Clone(s.Data)
			like.Data[i] ^= 1 << (i % 8)
			wantSame(t, s, like, false)
			like.Data = s.Data[:i]
			wantSame(t, s, like, false)
			like.Data = s.Data[i+1:]
			wantSame(t, s, like, false)
		}
	}
	wantSame(t, slot.Slot{}, slot.Slot{Data: []byte{}}, true)
	wantSame(t, slot.Slot{Data: []byte{}}, slot.Slot{Data: []byte{0}}, false)
	wantSame(t, slot.Slot{Ino: 2, Gen: 1}, slot.Slot{Ino: 1, Gen: 2}, false)
	wantSame(t, slot.Slot{Cookie: 1}, slot.Slot{Verf: 1}, false)
}

func TestSameOfWhatCannotBeASlot(t *testing.T) {
	for _, s := range []slot.Slot{{Ino: 24}, {Kind: 9}, {Links: 1}, sized(1000), {Kind: api.Dir, Data: []byte("x")}} {
		wantSame(t, s, s, true)
		for _, other := range changed(s) {
			wantSame(t, s, other, false)
		}
	}
}

func TestHandle(t *testing.T) {
	known := map[api.Handle]slot.Slot{
		{}:                {},
		{Ino: 1, Gen: 2}:  sized(10),
		{Ino: 3, Gen: 4}:  directory(7),
		{Ino: 24, Gen: 0}: {Ino: 24, Kind: 4, Links: 5},
		{Ino: math.MaxUint32, Gen: 1 << 31}: {
			Ino: math.MaxUint32, Kind: 5, Gen: 1 << 31, Links: 6, Mode: 7, Change: 8, Cookie: 9, Verf: 10, Data: patterned(800),
		},
	}
	for want, s := range known {
		if got := slot.Handle(s); got != want {
			t.Errorf("Handle(%v) = %v, want %v", s, got, want)
		}
	}
}

// P11.3

// someEntries returns entries that are often valid, with cookies up to 100.
func someEntries(seed *uint64) []dir.Entry {
	var l []dir.Entry
	cookie := 0
	for range below(seed, 6) {
		cookie += below(seed, 20)
		h := api.Handle{Ino: noise(seed), Gen: noise(seed)}
		l = append(l, dir.Entry{Cookie: uint64(cookie), Handle: h, Name: strings.Repeat(string(rune('a'+below(seed, 20))), 1+below(seed, 25))})
	}
	return l
}

// someSlot returns a slot that is often accepted, with a few of its fields made anew.
func someSlot(seed *uint64) slot.Slot {
	s := sized(below(seed, 769))
	switch below(seed, 3) {
	case 0:
		s = directory(uint64(40+below(seed, 60)), someEntries(seed)...)
	case 1:
		s = slot.Slot{}
	default:
		s.Kind = []uint32{api.File, api.Link}[below(seed, 2)]
		s.Mode, s.Cookie, s.Verf = noise(seed), wide(seed), wide(seed)
	}
	s.Ino, s.Gen, s.Change = uint32(below(seed, 24)), noise(seed), wide(seed)
	switch below(seed, 20) {
	case 0:
		s.Ino = uint32(below(seed, 48))
	case 1:
		s.Kind = uint32(below(seed, 6))
	case 2:
		s.Links = uint32(below(seed, 2))
	case 3:
		s.Mode, s.Cookie, s.Verf = uint32(below(seed, 2)), wide(seed)%2, wide(seed)%2
	case 4:
		s.Data = patterned(below(seed, 3))
	}
	return s
}

func TestPutAndGetManySlots(t *testing.T) {
	seed := uint64(7)
	count := make(map[bool]int)
	for range 40000 {
		s := someSlot(&seed)
		accepted := plainCheck(s)
		count[accepted]++
		if !accepted {
			wantCheck(t, s, api.ErrArg)
			continue
		}
		wantCheck(t, s, api.OK)
		b, _ := slot.Put(s)
		if got, _ := slot.Get(b); !slot.Same(got, s) || slot.Handle(got) != slot.Handle(s) {
			t.Errorf("%v became %v", s, got)
		}
	}
	if count[true] < 10000 || count[false] < 5000 {
		t.Errorf("%d slots were accepted, and %d refused", count[true], count[false])
	}
}

func TestWhatGetReturnedIsTheSameBytes(t *testing.T) {
	seed := uint64(8)
	accepted := 0
	for range 40000 {
		b := plainBytes(someSlot(&seed))
		for range below(&seed, 3) {
			b[below(&seed, len(b))] ^= 1 << below(&seed, 8)
		}
		s, e := slot.Get(b)
		if e != api.OK {
			continue
		}
		accepted++
		if !plainCheck(s) {
			t.Errorf("Get(%v) = %v", b, s)
		}
		if again, e := slot.Put(s); e != api.OK || !bytes.Equal(again, b) {
			t.Errorf("Put(%v) = %v, %d, want %v", s, again, e, b)
		}
	}
	if accepted < 5000 {
		t.Errorf("only %d slots were accepted", accepted)
	}
}

func TestGetOfAnyBytesEnds(t *testing.T) {
	seed := uint64(9)
	refusals := []api.Errno{api.ErrShort, api.ErrBig, api.ErrLeft, api.ErrForm}
	for range 20000 {
		b := make([]byte, below(&seed, 120))
		for i := range b {
			if below(&seed, 3) == 0 {
				b[i] = byte(noise(&seed))
			}
		}
		s, e := slot.Get(b)
		if e == api.OK && !bytes.Equal(plainBytes(s), b) || e != api.OK && (!slices.Contains(refusals, e) || !plainSame(s, slot.Slot{})) {
			t.Errorf("Get(%v) = %v, %d", b, s, e)
		}
	}
}
