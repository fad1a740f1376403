package sector_test

import (
	"bytes"
	"math"
	"testing"

	"removalist/api"
	"removalist/crc"
	"removalist/sector"
)

// noise is the next of a fixed sequence of numbers without a visible pattern.
func noise(x *uint64) uint32 {
	*x = *x*6364136223846793005 + 1442695040888963407
	return uint32(*x >> 32)
}

// body returns n bytes, none of which is 0.
func body(n int) []byte {
	b := make([]byte, n)
	for i := range b {
		b[i] = byte(i%255) + 1
	}
	return b
}

// laid returns the sector of the given first bytes, zero bytes, and the checksum.
func laid(first ...byte) []byte {
	b := make([]byte, 124)
	copy(b, first)
	return crc.Sealed(b)
}

// head returns the first 16 bytes of a sector, with a Seq of 2 and an At of 3.
func head(kind, index, count, length byte) []byte {
	return []byte{kind, index, count, length, 0, 0, 0, 0, 0, 0, 0, 2, 0, 0, 0, 3}
}

func same(f, g sector.Frame) bool {
	return f.Kind == g.Kind && f.Index == g.Index && f.Count == g.Count && f.Seq == g.Seq && f.At == g.At && bytes.Equal(f.Body, g.Body)
}

func put(t *testing.T, f sector.Frame) []byte {
	t.Helper()
	b, e := sector.Put(f)
	if e != api.OK || len(b) != api.Sector {
		t.Fatalf("Put(%v) = %d bytes, %d", f, len(b), e)
	}
	return b
}

func wantPut(t *testing.T, f sector.Frame, want []byte) {
	t.Helper()
	if got := put(t, f); !bytes.Equal(got, want) {
		t.Errorf("Put(%v) = %v, want %v", f, got, want)
	}
}

func wantNoPut(t *testing.T, f sector.Frame) {
	t.Helper()
	if b, e := sector.Put(f); e != api.ErrArg || len(b) != 0 {
		t.Errorf("Put(%v) = %v, %d, want nothing, ErrArg", f, b, e)
	}
}

func wantGet(t *testing.T, b []byte, want sector.Frame) {
	t.Helper()
	if got, e := sector.Get(b); e != api.OK || !same(got, want) {
		t.Errorf("Get(%v) = %v, %d, want %v", b, got, e, want)
	}
}

func wantNoGet(t *testing.T, b []byte, want api.Errno) {
	t.Helper()
	if f, e := sector.Get(b); e != want || !same(f, sector.Frame{}) {
		t.Errorf("Get(%v) = %v, %d, want nothing, %d", b, f, e, want)
	}
}

// P4.1

func TestKinds(t *testing.T) {
	if sector.Home != 1 || sector.Data != 2 || sector.Commit != 3 || sector.Super != 4 {
		t.Error(sector.Home, sector.Data, sector.Commit, sector.Super)
	}
}

func TestPutExample(t *testing.T) {
	want := laid(append(head(1, 0, 0, 2), 97, 98)...)
	wantPut(t, sector.Frame{Kind: sector.Home, Seq: 2, At: 3, Body: []byte("ab")}, want)
}

func TestPutEveryPart(t *testing.T) {
	f := sector.Frame{Kind: sector.Super, Index: 254, Count: 7, Seq: 0x0102030405060708, At: 0x090a0b0c, Body: []byte{13, 14, 15}}
	wantPut(t, f, laid(4, 254, 7, 3, 1, 2, 3, 4, 5, 6, 7, 8, 9, 10, 11, 12, 13, 14, 15))
	f = sector.Frame{Kind: sector.Data, Index: 255, Count: 255, Seq: math.MaxUint64, At: math.MaxUint32}
	wantPut(t, f, laid(2, 255, 255, 0, 255, 255, 255, 255, 255, 255, 255, 255, 255, 255, 255, 255))
	wantPut(t, sector.Frame{Kind: sector.Commit}, laid(3))
}

func TestPutChecksum(t *testing.T) {
	b := put(t, sector.Frame{Kind: sector.Data, Seq: 9, Body: body(50)})
	sum := crc.Of(b[:124])
	if want := []byte{byte(sum >> 24), byte(sum >> 16), byte(sum >> 8), byte(sum)}; !bytes.Equal(b[124:], want) {
		t.Errorf("the last bytes are %v, want %v", b[124:], want)
	}
}

func TestPutRangeOfKind(t *testing.T) {
	for _, kind := range []int{math.MinInt, -255, -1, 0, 5, 255, 256, 257, 260, 1 << 32, 1<<32 + 1, math.MaxInt} {
		wantNoPut(t, sector.Frame{Kind: kind})
	}
	for kind := 1; kind <= 4; kind++ {
		wantPut(t, sector.Frame{Kind: kind}, laid(byte(kind)))
	}
}

func TestPutRangeOfIndexAndCount(t *testing.T) {
	for _, n := range []int{math.MinInt, -256, -1, 256, 257, 512, 1 << 32, math.MaxInt} {
		wantNoPut(t, sector.Frame{Kind: 1, Index: n})
		wantNoPut(t, sector.Frame{Kind: 1, Count: n})
		wantNoPut(t, sector.Frame{Kind: 1, Index: n, Count: n})
	}
	for n := range 256 {
		wantPut(t, sector.Frame{Kind: 1, Index: n}, laid(1, byte(n)))
		wantPut(t, sector.Frame{Kind: 1, Count: n}, laid(1, 0, byte(n)))
	}
}

func TestPutEveryLength(t *testing.T) {
	for n := range 109 {
		want := laid(append(head(2, 0, 0, byte(n)), body(n)...)...)
		wantPut(t, sector.Frame{Kind: 2, Seq: 2, At: 3, Body: body(n)}, want)
	}
	for _, n := range []int{109, 110, 112, 128, 255, 256, 257, 300, 1 << 16} {
		wantNoPut(t, sector.Frame{Kind: 2, Seq: 2, At: 3, Body: make([]byte, n)})
	}
}

func TestPutNilAndEmptyBody(t *testing.T) {
	wantPut(t, sector.Frame{Kind: 1, Body: nil}, laid(1))
	wantPut(t, sector.Frame{Kind: 1, Body: []byte{}}, laid(1))
}

func TestPutIsNewMemory(t *testing.T) {
	given := body(108)
	f := sector.Frame{Kind: 1, Body: given}
	first, second := put(t, f), put(t, f)
	if !bytes.Equal(given, body(108)) {
		t.Error("the argument was changed")
	}
	kept := bytes.Clone(second)
	clear(first)
	if !bytes.Equal(given, body(108)) || !bytes.Equal(second, kept) {
		t.Error("a change of the result changed something else")
	}
	clear(given)
	if !bytes.Equal(second, kept) {
		t.Error("a change of the argument changed the result")
	}
}

func TestPutReadsNothingBehindTheBody(t *testing.T) {
	long := body(300)
	wantPut(t, sector.Frame{Kind: 1, Seq: 2, At: 3, Body: long[:4]}, laid(append(head(1, 0, 0, 4), 1, 2, 3, 4)...))
}

// P4.2

func TestGetEveryPart(t *testing.T) {
	b := laid(4, 254, 7, 3, 1, 2, 3, 4, 5, 6, 7, 8, 9, 10, 11, 12, 13, 14, 15)
	wantGet(t, b, sector.Frame{Kind: sector.Super, Index: 254, Count: 7, Seq: 0x0102030405060708, At: 0x090a0b0c, Body: []byte{13, 14, 15}})
	b = laid(3, 255, 255, 0, 255, 255, 255, 255, 255, 255, 255, 255, 255, 255, 255, 255)
	wantGet(t, b, sector.Frame{Kind: sector.Commit, Index: 255, Count: 255, Seq: math.MaxUint64, At: math.MaxUint32})
	wantGet(t, laid(1), sector.Frame{Kind: sector.Home})
}

func TestGetNumberOfBytes(t *testing.T) {
	wantNoGet(t, nil, api.ErrForm)
	for _, n := range []int{0, 1, 3, 4, 16, 20, 124, 127, 129, 132, 256, 4096} {
		wantNoGet(t, make([]byte, n), api.ErrForm)
		if n >= 5 {
			b := make([]byte, n-4)
			b[0] = sector.Home
			wantNoGet(t, crc.Sealed(b), api.ErrForm) // the checksum is right
		}
	}
}

func TestGetChecksumBeforeForm(t *testing.T) {
	wantNoGet(t, make([]byte, 128), api.ErrSum)
	for _, first := range [][]byte{{1}, {0}, {5}, {1, 0, 0, 109}, append(head(1, 0, 0, 0), 1)} {
		b := laid(first...)
		b[127] ^= 1
		wantNoGet(t, b, api.ErrSum)
	}
}

func TestGetEveryBitCounts(t *testing.T) {
	b := put(t, sector.Frame{Kind: 2, Index: 1, Count: 2, Seq: 300, At: 70000, Body: body(96)})
	for i := range 128 * 8 {
		b[i/8] ^= 1 << (i % 8)
		wantNoGet(t, b, api.ErrSum)
		b[i/8] ^= 1 << (i % 8)
	}
}

func TestGetEveryKind(t *testing.T) {
	for kind := range 256 {
		b := laid(head(byte(kind), 5, 6, 0)...)
		if kind >= 1 && kind <= 4 {
			wantGet(t, b, sector.Frame{Kind: kind, Index: 5, Count: 6, Seq: 2, At: 3})
		} else {
			wantNoGet(t, b, api.ErrForm)
		}
	}
}

func TestGetEveryLength(t *testing.T) {
	for n := range 256 {
		b := laid(append(head(2, 0, 0, byte(n)), body(min(n, 108))...)...)
		if n <= 108 {
			wantGet(t, b, sector.Frame{Kind: 2, Seq: 2, At: 3, Body: body(n)})
		} else {
			wantNoGet(t, b, api.ErrForm)
			wantNoGet(t, laid(head(2, 0, 0, byte(n))...), api.ErrForm)
		}
	}
}

func TestGetEveryByteAfterTheBody(t *testing.T) {
	for _, length := range []int{0, 1, 2, 50, 96, 107, 108} {
		for i := 16; i < 124; i++ {
			b := make([]byte, 124)
			copy(b, head(1, 0, 0, byte(length)))
			b[i] = 128
			f := sector.Frame{Kind: 1, Seq: 2, At: 3, Body: b[16 : 16+length]}
			if i < 16+length {
				wantGet(t, crc.Sealed(b), f)
			} else {
				wantNoGet(t, crc.Sealed(b), api.ErrForm)
			}
		}
	}
}

func TestGetIsNewMemory(t *testing.T) {
	want := sector.Frame{Kind: 1, Body: body(60)}
	b := put(t, want)
	kept := bytes.Clone(b)
	first, _ := sector.Get(b)
	second, _ := sector.Get(b)
	clear(first.Body)
	_ = append(first.Body, 9)
	if !bytes.Equal(b, kept) || !same(second, want) {
		t.Error("a change of the result changed something else")
	}
	clear(b)
	if !same(second, want) {
		t.Error("a change of the argument changed the result")
	}
}

// P4.3

func TestGetReturnsWhatPutEncoded(t *testing.T) {
	seed := uint64(4)
	for range 3000 {
		f := sector.Frame{Kind: int(noise(&seed)%4) + 1, Index: int(noise(&seed) % 256), Count: int(noise(&seed) % 256)}
		f.Seq = uint64(noise(&seed))<<32 | uint64(noise(&seed))
		f.At = noise(&seed)
		f.Body = make([]byte, noise(&seed)%109)
		for i := range f.Body {
			f.Body[i] = byte(noise(&seed) % 3) // many zero bytes, at the end of it too
		}
		wantGet(t, put(t, f), f)
	}
}

func TestWhatGetReturnedIsTheSameBytes(t *testing.T) {
	seed := uint64(5)
	accepted := 0
	for range 20000 {
		first := make([]byte, noise(&seed)%125)
		for i := range first {
			first[i] = byte(noise(&seed))
		}
		if len(first) > 3 {
			first[0] %= 6
			first[3] %= 120
		}
		b := laid(first...)
		if f, e := sector.Get(b); e == api.OK {
			accepted++
			wantPut(t, f, b)
		}
	}
	if accepted < 1000 {
		t.Errorf("only %d sectors were accepted", accepted)
	}
}
