package inode_test

import (
	"bytes"
	"encoding/binary"
	"math"
	"slices"
	"testing"

	"removalist/api"
	"removalist/inode"
)

// noise is the next of a fixed sequence of numbers without a visible pattern.
func noise(x *uint64) uint32 {
	*x = *x*6364136223846793005 + 1442695040888963407
	return uint32(*x >> 32)
}

// wide is noise of 64 bits.
func wide(x *uint64) uint64 { return uint64(noise(x))<<32 | uint64(noise(x)) }

// numbered returns n different blocks.
func numbered(n int) []uint32 {
	var l []uint32
	for i := range n {
		l = append(l, uint32(35+i))
	}
	return l
}

// sized returns a file of so many bytes, with the blocks that they need.
func sized(size int) inode.Inode {
	return inode.Inode{Kind: api.File, Links: 1, Size: uint32(size), Blocks: numbered((size + 95) / 96)}
}

// plainBytes encodes n as the document words it, whether or not n can be an inode.
func plainBytes(n inode.Inode) []byte {
	var b []byte
	for _, x := range []uint32{n.Kind, n.Gen, n.Links, n.Mode, n.Size} {
		b = binary.BigEndian.AppendUint32(b, x)
	}
	for _, x := range []uint64{n.Change, n.Cookie, n.Verf} {
		b = binary.BigEndian.AppendUint64(b, x)
	}
	b = binary.BigEndian.AppendUint32(b, uint32(len(n.Blocks)))
	for _, x := range n.Blocks {
		b = binary.BigEndian.AppendUint32(b, x)
	}
	return b
}

// plainCheck is Check as the document words it.
func plainCheck(n inode.Inode) bool {
	needed := 0
	for size := int64(n.Size); size > 0; size -= 96 {
		needed++
	}
	if n.Kind > 3 || len(n.Blocks) != needed || len(n.Blocks) > 8 {
		return false
	}
	for i := range n.Blocks {
		for k := range i {
			if n.Blocks[i] == n.Blocks[k] {
				return false
			}
		}
	}
	if n.Kind == 0 {
		return n.Links == 0 && n.Mode == 0 && n.Size == 0 && n.Cookie == 0 && n.Verf == 0 && len(n.Blocks) == 0
	}
	return n.Links >= 1
}

func isZero(n inode.Inode) bool { return same(n, inode.Inode{}) }

func same(n, m inode.Inode) bool {
	return n.Kind == m.Kind && n.Gen == m.Gen && n.Links == m.Links && n.Mode == m.Mode && n.Size == m.Size &&
		n.Change == m.Change && n.Cookie == m.Cookie && n.Verf == m.Verf && slices.Equal(n.Blocks, m.Blocks)
}

// wantCheck asks Put too, which has the errors of Check.
func wantCheck(t *testing.T, n inode.Inode, want api.Errno) {
	t.Helper()
	if e := inode.Check(n); e != want {
		t.Errorf("Check(%v) = %d, want %d", n, e, want)
	}
	if b, e := inode.Put(n); e != want || e != api.OK && len(b) != 0 {
		t.Errorf("Put(%v) = %v, %d, want %d", n, b, e, want)
	}
}

func wantPut(t *testing.T, n inode.Inode, want []byte) {
	t.Helper()
	if b, e := inode.Put(n); e != api.OK || !bytes.Equal(b, want) {
		t.Errorf("Put(%v) = %v, %d, want %v", n, b, e, want)
	}
}

func wantGet(t *testing.T, b []byte, want inode.Inode) {
	t.Helper()
	if n, e := inode.Get(b); e != api.OK || !same(n, want) {
		t.Errorf("Get(%v) = %v, %d, want %v", b, n, e, want)
	}
}

func wantNoGet(t *testing.T, b []byte, want api.Errno) {
	t.Helper()
	if n, e := inode.Get(b); e != want || !isZero(n) {
		t.Errorf("Get(%v) = %v, %d, want nothing, %d", b, n, e, want)
	}
}

// P7.1

func TestNeed(t *testing.T) {
	known := map[int]int{
		math.MinInt: 0, math.MinInt + 1: 0, -1 << 31: 0, -97: 0, -96: 0, -95: 0, -1: 0, 0: 0,
		1: 1, 95: 1, 96: 1, 97: 2, 191: 2, 192: 2, 193: 3, 672: 7, 673: 8, 768: 8, 769: 9,
		math.MaxInt32: 22369622, math.MaxInt - 1: math.MaxInt/96 + 1, math.MaxInt: math.MaxInt/96 + 1,
	}
	for size, want := range known {
		if got := inode.Need(size); got != want {
			t.Errorf("Need(%d) = %d, want %d", size, got, want)
		}
	}
	want := 0
	for size := range 5000 {
		if size > want*96 {
			want++
		}
		if got := inode.Need(size); got != want {
			t.Errorf("Need(%d) = %d, want %d", size, got, want)
		}
	}
}

func TestCheckKinds(t *testing.T) {
	for _, kind := range []uint32{api.File, api.Dir, api.Link} {
		wantCheck(t, inode.Inode{Kind: kind, Links: 1}, api.OK)
		wantCheck(t, inode.Inode{Kind: kind, Links: math.MaxUint32}, api.OK)
		wantCheck(t, inode.Inode{Kind: kind}, api.ErrArg)
		wantCheck(t, inode.Inode{Kind: kind, Gen: 1, Mode: 1, Size: 1, Change: 1, Cookie: 1, Verf: 1, Blocks: []uint32{1}}, api.ErrArg)
		n := inode.Inode{Kind: kind, Gen: math.MaxUint32, Links: 1, Mode: math.MaxUint32, Size: 768}
		n.Change, n.Cookie, n.Verf = math.MaxUint64, math.MaxUint64, math.MaxUint64
		n.Blocks = numbered(8)
		wantCheck(t, n, api.OK)
	}
	for _, kind := range []uint32{4, 5, 255, 256, 257, 1 << 16, 1 << 31, 1<<31 + 1, math.MaxUint32} {
		wantCheck(t, inode.Inode{Kind: kind, Links: 1}, api.ErrArg)
		wantCheck(t, inode.Inode{Kind: kind}, api.ErrArg)
	}
}

func TestCheckFree(t *testing.T) {
	allowed := []inode.Inode{
		{}, {Gen: 1}, {Gen: math.MaxUint32}, {Change: 1}, {Change: math.MaxUint64}, {Gen: 2, Change: 3}, {Blocks: []uint32{}},
	}
	for _, n := range allowed {
		wantCheck(t, n, api.OK)
	}
	refused := []inode.Inode{
		{Links: 1}, {Mode: 1}, {Cookie: 1}, {Verf: 1},
		{Links: 1 << 31}, {Mode: 1 << 31}, {Cookie: 1 << 32}, {Verf: 1 << 32}, {Cookie: 1 << 63}, {Verf: 1 << 63},
		{Size: 1}, {Blocks: []uint32{0}}, {Size: 1, Blocks: []uint32{0}}, {Size: 96, Blocks: []uint32{7}}, {Size: 768, Blocks: numbered(8)},
	}
	for _, n := range refused {
		wantCheck(t, n, api.ErrArg)
		n.Gen, n.Change = 5, 6
		wantCheck(t, n, api.ErrArg)
	}
}

func TestCheckNumberOfBlocks(t *testing.T) {
	for size := range 1000 {
		for blocks := range 11 {
			n := sized(size)
			n.Blocks = numbered(blocks)
			want := api.ErrArg
			if blocks <= 8 && size > 96*(blocks-1) && size <= 96*blocks {
				want = api.OK
			}
			wantCheck(t, n, want)
		}
	}
}

func TestCheckFarSizes(t *testing.T) {
	for _, size := range []uint32{769, 864, 1 << 16, math.MaxInt32, 1 << 31, 1<<31 + 1, math.MaxUint32 - 94, math.MaxUint32 - 95, math.MaxUint32} {
		for blocks := range 12 {
			wantCheck(t, inode.Inode{Kind: api.File, Links: 1, Size: size, Blocks: numbered(blocks)}, api.ErrArg)
		}
	}
	wantCheck(t, inode.Inode{Kind: api.File, Links: 1, Size: 96 * 300, Blocks: numbered(300)}, api.ErrArg)
}

func TestCheckEqualBlocks(t *testing.T) {
	for count := 2; count <= 8; count++ {
		for i := range count {
			for k := range i {
				n := sized(96 * count)
				wantCheck(t, n, api.OK)
				n.Blocks[i] = n.Blocks[k]
				wantCheck(t, n, api.ErrArg)
			}
		}
	}
	known := []struct {
		blocks []uint32
		want   api.Errno
	}{
		{[]uint32{0, 0}, api.ErrArg},
		{[]uint32{0, 1}, api.OK},
		{[]uint32{1, 0}, api.OK},
		{[]uint32{0, 1 << 31}, api.OK},
		{[]uint32{1, 1<<16 + 1}, api.OK},
		{[]uint32{0, math.MaxUint32}, api.OK},
		{[]uint32{math.MaxUint32, math.MaxUint32}, api.ErrArg},
	}
	for _, c := range known {
		wantCheck(t, inode.Inode{Kind: api.Dir, Links: 2, Size: 150, Blocks: c.blocks}, c.want)
	}
}

func TestArgumentsAreNotChanged(t *testing.T) {
	room := []uint32{9, 2, 7, 100, 101}
	n := inode.Inode{Kind: api.File, Links: 1, Size: 200, Blocks: room[:3]}
	inode.Check(n)
	inode.Put(n)
	n.Blocks = room[:4]
	inode.Check(n)
	inode.Put(n)
	if !slices.Equal(room, []uint32{9, 2, 7, 100, 101}) {
		t.Errorf("the blocks became %v", room)
	}
	b := plainBytes(sized(200))
	for _, part := range [][]byte{b, b[:50], b[:0]} {
		inode.Get(part)
	}
	if !bytes.Equal(b, plainBytes(sized(200))) {
		t.Errorf("the bytes became %v", b)
	}
}

// P7.2

func TestPutOfNothing(t *testing.T) {
	wantPut(t, inode.Inode{}, nil)
	wantPut(t, inode.Inode{Blocks: []uint32{}}, nil)
}

func TestPutFree(t *testing.T) {
	b := make([]byte, 48)
	b[7] = 1
	wantPut(t, inode.Inode{Gen: 1}, b)
	b = make([]byte, 48)
	b[27] = 1
	wantPut(t, inode.Inode{Change: 1}, b)
	b[20], b[27], b[4] = 128, 0, 128
	wantPut(t, inode.Inode{Gen: 1 << 31, Change: 1 << 63}, b)
}

func TestPutEveryField(t *testing.T) {
	n := inode.Inode{Kind: api.Link, Gen: 0x01020304, Links: 0x05060708, Mode: 0x090a0b0c, Size: 0x101}
	n.Change, n.Cookie, n.Verf = 0x1112131415161718, 0x191a1b1c1d1e1f20, 0x2122232425262728
	n.Blocks = []uint32{0x31323334, 0x35363738, 5}
	want := []byte{
		0, 0, 0, 3, 1, 2, 3, 4, 5, 6, 7, 8, 9, 10, 11, 12, 0, 0, 1, 1,
		0x11, 0x12, 0x13, 0x14, 0x15, 0x16, 0x17, 0x18,
		0x19, 0x1a, 0x1b, 0x1c, 0x1d, 0x1e, 0x1f, 0x20,
		0x21, 0x22, 0x23, 0x24, 0x25, 0x26, 0x27, 0x28,
		0, 0, 0, 3, 0x31, 0x32, 0x33, 0x34, 0x35, 0x36, 0x37, 0x38, 0, 0, 0, 5,
	}
	wantPut(t, n, want)
	wantGet(t, want, n)
}

func TestPutEverySize(t *testing.T) {
	for size := range 769 {
		n := sized(size)
		wantPut(t, n, plainBytes(n))
		slices.Reverse(n.Blocks) // their order counts
		wantPut(t, n, plainBytes(n))
	}
}

func TestPutIsNewMemory(t *testing.T) {
	n := sized(300)
	first, _ := inode.Put(n)
	second, _ := inode.Put(n)
	clear(first)
	clear(n.Blocks)
	if !bytes.Equal(second, plainBytes(sized(300))) {
		t.Errorf("the result became %v", second)
	}
}

// P7.3

func TestGetOfNothing(t *testing.T) {
	wantGet(t, nil, inode.Inode{})
	wantGet(t, []byte{}, inode.Inode{})
	wantGet(t, plainBytes(sized(200))[:0], inode.Inode{}) // bytes behind it are not its own
}

func TestGetOfZeroFields(t *testing.T) {
	for size := 1; size < 200; size++ {
		want := api.ErrLeft
		if size < 48 {
			want = api.ErrShort
		} else if size == 48 {
			want = api.ErrForm
		}
		wantNoGet(t, make([]byte, size), want)
	}
	wantGet(t, plainBytes(inode.Inode{Gen: 1}), inode.Inode{Gen: 1})
	wantGet(t, plainBytes(inode.Inode{Change: 1}), inode.Inode{Change: 1})
}

func TestGetTooShort(t *testing.T) {
	for blocks := range 9 {
		b := plainBytes(sized(96 * blocks))
		for size := 1; size < len(b); size++ {
			wantNoGet(t, b[:size], api.ErrShort)
		}
	}
}

func TestGetBytesLeft(t *testing.T) {
	for blocks := range 9 {
		b := plainBytes(sized(96 * blocks))
		for range 40 {
			b = append(b, 0)
			wantNoGet(t, b, api.ErrLeft)
		}
	}
}

func TestGetTooManyBlocks(t *testing.T) {
	for _, count := range []uint32{9, 10, 255, 256, 257, 264, 1 << 16, 1<<24 + 1, math.MaxInt32, 1 << 31, 1<<31 + 1, math.MaxUint32} {
		b := plainBytes(sized(0))
		binary.BigEndian.PutUint32(b[44:], count)
		for range 80 { // neither bytes that are missing nor bytes that are left come first
			wantNoGet(t, b, api.ErrBig)
			b = append(b, 1)
		}
		wantNoGet(t, b[:47], api.ErrShort)
	}
	for _, n := range []inode.Inode{{Blocks: numbered(9)}, {Kind: 4, Blocks: numbered(9)}, {Kind: 1, Links: 1, Size: 864, Blocks: numbered(9)}} {
		wantNoGet(t, plainBytes(n), api.ErrBig)
		wantNoGet(t, plainBytes(n)[:60], api.ErrBig)
		wantNoGet(t, append(plainBytes(n), 0), api.ErrBig)
	}
	n := sized(768)
	wantGet(t, plainBytes(n), n)
}

func TestGetRefusesWhatCheckRefuses(t *testing.T) {
	refused := []inode.Inode{
		{Kind: 4, Links: 1}, {Kind: math.MaxUint32, Links: 1}, {Kind: 1 << 31, Links: 1},
		{Kind: api.File}, {Kind: api.Dir}, {Kind: api.Link, Gen: 7},
		{Links: 1}, {Mode: 1}, {Size: 1}, {Cookie: 1}, {Verf: 1}, {Blocks: []uint32{3}}, {Size: 9, Blocks: []uint32{3}},
		{Kind: api.File, Links: 1, Size: 1}, {Kind: api.File, Links: 1, Blocks: []uint32{3}},
		{Kind: api.File, Links: 1, Size: 96, Blocks: []uint32{3, 4}}, {Kind: api.File, Links: 1, Size: 97, Blocks: []uint32{3}},
		{Kind: api.File, Links: 1, Size: 97, Blocks: []uint32{3, 3}}, {Kind: api.File, Links: 1, Size: 192, Blocks: []uint32{0, 0}},
		{Kind: api.File, Links: 1, Size: 769, Blocks: numbered(8)}, {Kind: api.File, Links: 1, Size: math.MaxUint32, Blocks: numbered(8)},
		{Kind: api.File, Links: 1, Size: math.MaxUint32}, {Kind: api.File, Links: 1, Size: 1 << 31},
	}
	for _, n := range refused {
		b := plainBytes(n)
		wantNoGet(t, b, api.ErrForm)
		wantNoGet(t, append(bytes.Clone(b), 0), api.ErrLeft)
		wantNoGet(t, b[:len(b)-1], api.ErrShort)
	}
}

func TestGetIsNewMemory(t *testing.T) {
	want := sized(300)
	b := plainBytes(want)
	first, _ := inode.Get(b)
	second, _ := inode.Get(b)
	clear(first.Blocks)
	_ = append(first.Blocks, 9)
	clear(b)
	if !same(second, want) {
		t.Errorf("the result became %v", second)
	}
}

// P7.4

// someInode returns an inode that is often accepted, with a few of its fields made anew.
func someInode(seed *uint64) inode.Inode {
	n := sized(int(noise(seed) % 769))
	n.Kind, n.Links = noise(seed)%3+1, noise(seed)%3+1
	n.Gen, n.Mode = noise(seed), noise(seed)
	n.Change, n.Cookie, n.Verf = wide(seed), wide(seed), wide(seed)
	for i := range n.Blocks {
		n.Blocks[i] = noise(seed) % 100
	}
	if noise(seed)%8 == 0 {
		n = inode.Inode{Gen: noise(seed) % 2, Change: wide(seed) % 2}
	}
	switch noise(seed) % 16 {
	case 0:
		n.Kind = noise(seed) % 6
	case 1:
		n.Links = 0
	case 2:
		n.Size = noise(seed) % 800
	case 3:
		n.Blocks = numbered(int(noise(seed) % 9))
	case 4:
		n.Cookie, n.Verf, n.Mode = wide(seed)%2, wide(seed)%2, noise(seed)%2
	}
	return n
}

func TestPutAndGetManyInodes(t *testing.T) {
	seed := uint64(7)
	accepted, refused := 0, 0
	for range 40000 {
		n := someInode(&seed)
		b := plainBytes(n)
		switch {
		case !plainCheck(n):
			refused++
			wantCheck(t, n, api.ErrArg)
			wantNoGet(t, b, api.ErrForm)
		case isZero(n):
			wantPut(t, n, nil)
			wantGet(t, nil, n)
			wantNoGet(t, b, api.ErrForm)
		default:
			accepted++
			wantCheck(t, n, api.OK)
			wantPut(t, n, b)
			wantGet(t, b, n)
		}
		if len(b) > api.Block {
			t.Errorf("%d bytes do not fit in a block", len(b))
		}
	}
	if accepted < 5000 || refused < 5000 {
		t.Errorf("%d inodes were accepted, and %d refused", accepted, refused)
	}
}

func TestWhatGetReturnedIsTheSameBytes(t *testing.T) {
	seed := uint64(8)
	accepted := 0
	for range 40000 {
		b := plainBytes(someInode(&seed))
		for range noise(&seed) % 3 {
			b[noise(&seed)%uint32(len(b))] ^= 1 << (noise(&seed) % 8)
		}
		n, e := inode.Get(b)
		if e != api.OK {
			continue
		}
		accepted++
		if !plainCheck(n) {
			t.Errorf("Get(%v) = %v", b, n)
		}
		wantPut(t, n, b)
	}
	if accepted < 5000 {
		t.Errorf("only %d inodes were accepted", accepted)
	}
}

func TestEveryEncodingFitsInABlock(t *testing.T) {
	for blocks := range 9 {
		n := sized(96 * blocks)
		if b, e := inode.Put(n); e != api.OK || len(b) != 48+4*blocks || len(b) > api.Block {
			t.Errorf("%d blocks: %d bytes, %d", blocks, len(b), e)
		}
	}
}
