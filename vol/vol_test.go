package vol_test

import (
	"bytes"
	"encoding/binary"
	"math"
	"slices"
	"testing"

	"removalist/api"
	"removalist/disk"
	"removalist/inode"
	"removalist/journal"
	"removalist/slot"
	"removalist/txn"
	"removalist/vol"
)

// empty returns a volume of so many data blocks, every block of which is empty.
func empty(data int) plain { return make(plain, 35+data) }

// picture returns the blocks as they are to become.
func picture(x *txn.Txn) plain {
	out := make(plain, x.Len())
	for i := range out {
		out[i] = x.Get(i)
	}
	return out
}

func wantBlocks(t *testing.T, x *txn.Txn, want plain) {
	t.Helper()
	got := picture(x)
	if len(got) != len(want) {
		t.Fatalf("%d blocks, want %d", len(got), len(want))
	}
	for i := range want {
		if !bytes.Equal(got[i], want[i]) {
			t.Errorf("block %d is %v, want %v", i, got[i], want[i])
		}
	}
}

func sameSlots(a, b []slot.Slot) bool { return slices.EqualFunc(a, b, slot.Same) }

func wantLoad(t *testing.T, x *txn.Txn, ino int, want slot.Slot) {
	t.Helper()
	if got, e := vol.Load(x, ino); e != api.OK || !slot.Same(got, want) {
		t.Errorf("Load(%d) = %v, %d, want %v", ino, got, e, want)
	}
}

func wantNoLoad(t *testing.T, x *txn.Txn, ino int, want api.Errno) {
	t.Helper()
	if got, e := vol.Load(x, ino); e != want || !slot.Same(got, slot.Slot{}) {
		t.Errorf("Load(%d) = %v, %d, want nothing, %d", ino, got, e, want)
	}
}

// wantAll asks for every slot by All and by Load, and for what else there is to know of p, with the answers that p has.
func wantAll(t *testing.T, x *txn.Txn, p plain) {
	t.Helper()
	want, wantErr := p.all()
	if got, e := vol.All(x); e != wantErr || !sameSlots(got, want) {
		t.Errorf("All = %v, %d, want %v, %d", got, e, want, wantErr)
	}
	for ino := range 24 {
		if s, e := p.load(ino); e == api.OK {
			wantLoad(t, x, ino, s)
		} else {
			wantNoLoad(t, x, ino, e)
		}
	}
	if got := vol.Free(x); got != p.free() {
		t.Errorf("Free = %d, want %d", got, p.free())
	}
	wantN, wantErr := p.change()
	if n, e := vol.Change(x); n != wantN || e != wantErr {
		t.Errorf("Change = %d, %d, want %d, %d", n, e, wantN, wantErr)
	}
	if text := vol.Wrong(x); (text == "") != p.sound() {
		t.Errorf("Wrong = %q, want some: %v", text, !p.sound())
	}
}

// wantSave saves, and asks for every block after it; it returns the volume then.
func wantSave(t *testing.T, x *txn.Txn, p plain, l []slot.Slot, want api.Errno) plain {
	t.Helper()
	out, e := p.save(l)
	if e != want {
		t.Fatalf("the test expects %d of Save, the document %d", want, e)
	}
	if got := vol.Save(x, l); got != want {
		t.Errorf("Save = %d, want %d", got, want)
	}
	wantBlocks(t, x, out)
	return out
}

func put(t *testing.T, x *txn.Txn, i int, b []byte) {
	t.Helper()
	if e := x.Put(i, b); e != api.OK {
		t.Fatalf("Put(%d) of %d bytes returned %d", i, len(b), e)
	}
}

// inodeBytes returns the block of n, whatever its fields are.
func inodeBytes(n inode.Inode) []byte {
	var b []byte
	for _, x := range []uint32{n.Kind, n.Gen, n.Links, n.Mode, n.Size} {
		b = binary.BigEndian.AppendUint32(b, x)
	}
	for _, x := range []uint64{n.Change, n.Cookie, n.Verf} {
		b = binary.BigEndian.AppendUint64(b, x)
	}
	b = binary.BigEndian.AppendUint32(b, uint32(len(n.Blocks)))
	for _, x := range n.Blocks {
		b = binary.BigEndian.AppendUint32(b, x)
	}
	return b
}

// fileBytes returns the block of a file's inode.
func fileBytes(size uint32, blocks ...uint32) []byte {
	return inodeBytes(inode.Inode{Kind: api.File, Gen: 1, Links: 1, Size: size, Blocks: blocks})
}

func TestBlocks(t *testing.T) {
	got := []int{vol.Mark, vol.Replies, vol.Map, vol.Meta, vol.Inodes, vol.Data}
	if !slices.Equal(got, []int{0, 1, 9, 10, 11, 35}) {
		t.Error(got)
	}
}

// P12.1

func wantNoVolume(t *testing.T, x *txn.Txn) {
	t.Helper()
	before := picture(x)
	for _, ino := range []int{-1, 0, 23, 24} {
		wantNoLoad(t, x, ino, api.ErrArg)
	}
	if l, e := vol.All(x); e != api.ErrArg || len(l) != 0 {
		t.Errorf("All = %v, %d", l, e)
	}
	for _, l := range [][]slot.Slot{nil, {{}}, {file(1, 5)}, {{Ino: 99}}} {
		if e := vol.Save(x, l); e != api.ErrArg {
			t.Errorf("Save(%v) = %d", l, e)
		}
	}
	if n := vol.Free(x); n != 0 {
		t.Errorf("Free = %d", n)
	}
	if n, e := vol.Change(x); n != 0 || e != api.ErrArg {
		t.Errorf("Change = %d, %d", n, e)
	}
	for _, n := range []uint64{0, 1, math.MaxUint64} {
		if e := vol.SetChange(x, n); e != api.ErrArg {
			t.Errorf("SetChange(%d) = %d", n, e)
		}
	}
	if text := vol.Wrong(x); text != "no volume" {
		t.Errorf("Wrong = %q", text)
	}
	wantBlocks(t, x, before)
}

func TestNoVolume(t *testing.T) {
	wantNoVolume(t, nil)
	for n := range 36 {
		wantNoVolume(t, txn.New(make([][]byte, n)))
	}
	for _, n := range []int{804, 805, 900, 4096} {
		wantNoVolume(t, txn.New(make([][]byte, n)))
	}
	filled := txn.New(make([][]byte, 35))
	put(t, filled, 10, []byte{0, 0, 0, 0, 0, 0, 0, 9})
	put(t, filled, 11, inodeBytes(inode.Inode{Gen: 3}))
	wantNoVolume(t, filled)
}

func TestEveryNumberOfBlocks(t *testing.T) {
	for n := 36; n <= 803; n++ {
		x := txn.New(make([][]byte, n))
		if got := vol.Free(x); got != n-35 {
			t.Errorf("Free of %d blocks = %d", n, got)
		}
		if text := vol.Wrong(x); text != "" {
			t.Errorf("Wrong of %d blocks = %q", n, text)
		}
		if e := vol.Save(x, []slot.Slot{file(23, 96)}); e != api.OK {
			t.Errorf("Save in %d blocks = %d", n, e)
		}
		if s, e := vol.Load(x, 23); e != api.OK || len(s.Data) != 96 {
			t.Errorf("Load of %d blocks = %v, %d", n, s, e)
		}
	}
}

func TestLoadEmpty(t *testing.T) {
	x := txn.New(empty(5))
	for ino := range 24 {
		wantLoad(t, x, ino, slot.Slot{Ino: uint32(ino)})
	}
	wantAll(t, x, empty(5))
}

func TestLoadOutOfRange(t *testing.T) {
	x := txn.New(empty(30))
	for i := range x.Len() { // nothing that a block says comes ahead
		put(t, x, i, []byte{1})
	}
	for _, ino := range []int{-1, -2, -11, 24, 25, 64, 1 << 20, math.MinInt, math.MinInt + 11, math.MaxInt, math.MaxInt - 10} {
		wantNoLoad(t, x, ino, api.ErrRange)
	}
	wantNoLoad(t, x, 0, api.ErrShort)
	wantNoLoad(t, x, 23, api.ErrShort)
}

func TestLoadEveryField(t *testing.T) {
	x := txn.New(empty(9))
	n := inode.Inode{Kind: api.Link, Gen: 2, Links: 3, Mode: 4, Size: 200, Change: 5 << 32, Cookie: 6 << 33, Verf: 7 << 34, Blocks: []uint32{8, 0, 4}}
	put(t, x, 11+7, inodeBytes(n))
	data := patterned(200)
	put(t, x, 35+8, data[:96])
	put(t, x, 35+0, data[96:192])
	put(t, x, 35+4, data[192:])
	want := slot.Slot{Ino: 7, Kind: api.Link, Gen: 2, Links: 3, Mode: 4, Change: 5 << 32, Cookie: 6 << 33, Verf: 7 << 34, Data: data}
	wantLoad(t, x, 7, want) // although Map does not say that these blocks are allocated
	wantLoad(t, x, 6, slot.Slot{Ino: 6})
	put(t, x, 11, inodeBytes(inode.Inode{Gen: 9, Change: 10}))
	wantLoad(t, x, 0, slot.Slot{Gen: 9, Change: 10})
}

func TestLoadErrorsOfInode(t *testing.T) {
	x := txn.New(empty(9))
	whole := fileBytes(90, 2)
	put(t, x, 35+2, make([]byte, 90))
	wrong := map[api.Errno][]byte{
		api.ErrShort: whole[:len(whole)-1],
		api.ErrLeft:  append(bytes.Clone(whole), 0),
		api.ErrBig:   fileBytes(768, 0, 1, 2, 3, 4, 5, 6, 7, 8),
		api.ErrForm:  fileBytes(97, 2),
	}
	for want, b := range wrong {
		for ino := range 24 {
			put(t, x, 11+ino, b)
			wantNoLoad(t, x, ino, want)
			put(t, x, 11+ino, whole)
			s := file(uint32(ino), 0)
			s.Gen, s.Data = 1, make([]byte, 90)
			wantLoad(t, x, ino, s)
		}
	}
}

func TestLoadBlockThatDoesNotExist(t *testing.T) {
	for _, data := range []int{1, 2, 10, 768} {
		p := empty(data)
		for i := range data {
			p[35+i] = make([]byte, 96)
		}
		x := txn.New(p)
		put(t, x, 11, fileBytes(96, uint32(data-1)))
		s := file(0, 0)
		s.Data = make([]byte, 96)
		wantLoad(t, x, 0, s)
		for _, at := range []uint32{uint32(data), uint32(data) + 1, uint32(data) + 35, 1 << 16, math.MaxInt32 - 34, math.MaxInt32, 1 << 31, math.MaxUint32 - 34, math.MaxUint32} {
			put(t, x, 11, fileBytes(96, at))
			wantNoLoad(t, x, 0, api.ErrForm)
			put(t, x, 11, fileBytes(100, 0, at))
			wantNoLoad(t, x, 0, api.ErrForm)
			put(t, x, 11, fileBytes(100, at, 0))
			wantNoLoad(t, x, 0, api.ErrForm)
		}
	}
}

// TestLoadBlockOfAnotherLength gives a wrong length to each block of files of each number of blocks.
func TestLoadBlockOfAnotherLength(t *testing.T) {
	for _, size := range []int{1, 2, 95, 96, 97, 191, 192, 193, 288, 500, 767, 768} {
		p, e := empty(8).save([]slot.Slot{file(0, size)})
		if e != api.OK {
			t.Fatal(e)
		}
		wantLoad(t, txn.New(p), 0, file(0, size))
		for from := 0; from < size; from += 96 {
			for length := range 101 { // a block may have more than 96 bytes where New has it
				wrong := p.clone()
				wrong[35+from/96] = make([]byte, length)
				want := wrong.clone()
				s, e := want.load(0)
				if length == min(size-from, 96) {
					wantLoad(t, txn.New(wrong), 0, s)
					continue
				}
				if e != api.ErrForm {
					t.Fatalf("the plain volume returns %d", e)
				}
				wantNoLoad(t, txn.New(wrong), 0, api.ErrForm)
			}
		}
	}
}

// TestLoadLengthsThatAddUp has the bytes of Size in all, but not 96 in each block.
func TestLoadLengthsThatAddUp(t *testing.T) {
	for _, lengths := range [][]int{{95, 3}, {97, 1}, {98, 0}, {2, 96}, {0, 98}} {
		p := empty(4)
		p[11] = fileBytes(98, 0, 1)
		p[35], p[36] = make([]byte, lengths[0]), make([]byte, lengths[1])
		wantNoLoad(t, txn.New(p), 0, api.ErrForm)
	}
}

func TestLoadRefusedByCheck(t *testing.T) {
	x := txn.New(empty(4))
	s := directory(0, 2)
	n := inode.Inode{Kind: api.Dir, Gen: 2, Links: 1, Size: uint32(len(s.Data)), Cookie: 2, Blocks: []uint32{3}}
	put(t, x, 35+3, s.Data)
	put(t, x, 11, inodeBytes(n))
	wantLoad(t, x, 0, s)
	n.Cookie = 1 // less than that of the second entry
	put(t, x, 11, inodeBytes(n))
	wantNoLoad(t, x, 0, api.ErrForm)
	n.Cookie = 2
	put(t, x, 11, inodeBytes(n))
	s.Data[len(s.Data)-1] = 1 // behind the name
	put(t, x, 35+3, s.Data)
	wantNoLoad(t, x, 0, api.ErrForm)
	n.Kind = api.File
	put(t, x, 11, inodeBytes(n))
	s.Kind = api.File
	wantLoad(t, x, 0, s)
}

func TestAllReturnsTheFirstError(t *testing.T) {
	short, left := []byte{1}, append(fileBytes(0), 0)
	for first := range 24 {
		for second := first + 1; second < 24; second++ {
			x := txn.New(empty(2))
			put(t, x, 11+second, short)
			put(t, x, 11+first, left)
			if l, e := vol.All(x); e != api.ErrLeft || len(l) != 0 {
				t.Errorf("All = %v, %d", l, e)
			}
		}
	}
}

func TestLoadIsNewMemory(t *testing.T) {
	p, _ := empty(10).save([]slot.Slot{file(0, 300), file(1, 96), directory(2, 3)})
	x := txn.New(p)
	for range 2 {
		l, _ := vol.All(x)
		for i := range l {
			clear(l[i].Data)
			_ = append(l[i].Data, 1, 2, 3)
		}
		s, _ := vol.Load(x, 1)
		clear(s.Data)
		wantAll(t, x, p)
		wantBlocks(t, x, p)
	}
}

func TestAskingChangesNothing(t *testing.T) {
	p, _ := empty(10).save([]slot.Slot{file(3, 300), directory(2, 3)})
	p[9] = append(p[9], 0, 0)
	p[11+4] = []byte{1}
	x := txn.New(p)
	wantAll(t, x, p)
	vol.Load(x, 24)
	if l := x.Changes(); len(l) > 0 {
		t.Errorf("changes: %v", l)
	}
}

// P12.2

func TestSaveLayout(t *testing.T) {
	x := txn.New(empty(12))
	s := slot.Slot{Ino: 5, Kind: api.File, Gen: 0x01020304, Links: 2, Mode: 3, Change: 0x0102030405060708, Cookie: 4, Verf: 5, Data: patterned(97)}
	if e := vol.Save(x, []slot.Slot{s, {Ino: 6, Gen: 7}, {Ino: 8}}); e != api.OK {
		t.Fatal(e)
	}
	want := empty(12)
	want[9] = []byte{0xc0}
	want[11+5] = []byte{
		0, 0, 0, 1, 1, 2, 3, 4, 0, 0, 0, 2, 0, 0, 0, 3, 0, 0, 0, 97,
		1, 2, 3, 4, 5, 6, 7, 8, 0, 0, 0, 0, 0, 0, 0, 4, 0, 0, 0, 0, 0, 0, 0, 5,
		0, 0, 0, 2, 0, 0, 0, 0, 0, 0, 0, 1,
	}
	want[11+6] = append([]byte{0, 0, 0, 0, 0, 0, 0, 7}, make([]byte, 40)...)
	want[35], want[36] = patterned(97)[:96], patterned(97)[96:]
	wantBlocks(t, x, want)
	if n := vol.Free(x); n != 10 {
		t.Errorf("Free = %d", n)
	}
}

func TestSaveEveryLength(t *testing.T) {
	x, p := txn.New(empty(8)), empty(8)
	for n := range 769 {
		p = wantSave(t, x, p, []slot.Slot{file(9, n)}, api.OK)
		if got, want := vol.Free(x), 8-(n+95)/96; got != want {
			t.Errorf("Free with %d bytes = %d, want %d", n, got, want)
		}
	}
	wantAll(t, x, p)
	p = wantSave(t, x, p, []slot.Slot{{Ino: 9}}, api.OK)
	wantBlocks(t, x, empty(8))
}

func TestSaveNothing(t *testing.T) {
	p, _ := empty(3).save([]slot.Slot{file(3, 250)})
	p[9] = append(p[9], 0)
	p[11+4] = []byte{1}
	x := txn.New(p)
	wantSave(t, x, p, nil, api.OK)
	wantSave(t, x, p, []slot.Slot{}, api.OK)
}

func TestSaveRefusesArguments(t *testing.T) {
	p, _ := empty(4).save([]slot.Slot{file(3, 250)})
	p[11+4] = []byte{1} // not even this comes ahead
	x := txn.New(p)
	refused := [][]slot.Slot{
		{{Ino: 24}}, {{Ino: math.MaxUint32}}, {{Kind: 4, Links: 1}}, {{Kind: api.File}}, {{Links: 1}}, {file(0, 769)},
		{{Kind: api.Dir, Links: 1, Data: []byte("x")}},
		{{}, {}}, {file(1, 5), file(1, 5)}, {file(3, 5), {Ino: 3}},
		{file(1, 5), file(2, 5), {Ino: 5}, file(1, 6)},
		{file(0, 5), {Ino: 24}}, {{Ino: 24}, file(0, 5)},
		{file(4, 5), file(4, 5)}, {file(4, 5), {Ino: 24}}, {{Ino: 24}, file(4, 5)},
		{file(0, 768), file(1, 768), {Ino: 24}}, {file(0, 768), file(0, 768)},
	}
	for _, l := range refused {
		wantSave(t, x, p, l, api.ErrArg)
	}
	for a := range uint32(24) {
		for b := range a {
			wantSave(t, x, p, []slot.Slot{{Ino: a}, {Ino: b}, {Ino: a}}, api.ErrArg)
		}
	}
	if l := x.Changes(); len(l) > 0 {
		t.Errorf("changes: %v", l)
	}
}

func TestSaveErrorsOfInode(t *testing.T) {
	p, _ := empty(4).save([]slot.Slot{file(3, 250)})
	p[11+7] = append(fileBytes(0), 0)
	x := txn.New(p)
	wantSave(t, x, p, []slot.Slot{file(7, 5)}, api.ErrLeft)
	wantSave(t, x, p, []slot.Slot{{Ino: 7}}, api.ErrLeft)
	wantSave(t, x, p, []slot.Slot{file(0, 5), {Ino: 3}, {Ino: 7}}, api.ErrLeft)
	wantSave(t, x, p, []slot.Slot{{Ino: 7}, file(0, 5), {Ino: 3}}, api.ErrLeft)
	wantSave(t, x, p, []slot.Slot{file(0, 768), {Ino: 7}}, api.ErrLeft) // ahead of too few data blocks
	if l := x.Changes(); len(l) > 0 {
		t.Errorf("changes: %v", l)
	}
	wantSave(t, x, p, []slot.Slot{file(0, 5), {Ino: 3}}, api.OK) // an inode that is not asked for is no matter
}

func TestSaveInTheOrderOfTheList(t *testing.T) {
	x := txn.New(empty(6))
	p := wantSave(t, x, empty(6), []slot.Slot{file(9, 100), file(2, 96), file(5, 200)}, api.OK)
	for ino, want := range map[int][]uint32{9: {0, 1}, 2: {2}, 5: {3, 4, 5}} {
		if n, e := inode.Get(p[11+ino]); e != api.OK || !slices.Equal(n.Blocks, want) {
			t.Errorf("inode %d has %v", ino, n.Blocks)
		}
	}
	// All blocks of the list become free before any is allocated.
	p = wantSave(t, x, p, []slot.Slot{file(5, 400), file(9, 0)}, api.OK)
	if n, _ := inode.Get(p[11+5]); !slices.Equal(n.Blocks, []uint32{0, 1, 3, 4, 5}) {
		t.Errorf("inode 5 has %v", n.Blocks)
	}
}

func TestSaveWithTooFewBlocks(t *testing.T) {
	for data := 1; data <= 10; data++ {
		for n := range 9 {
			for m := range 9 {
				x, p := txn.New(empty(data)), empty(data)
				want := api.OK
				if n+m > data {
					want = api.ErrNoSpc
				}
				l := []slot.Slot{file(1, n*96), {Ino: 4, Gen: 1}, file(2, m*96)}
				p = wantSave(t, x, p, l, want)
				if want == api.ErrNoSpc && len(x.Changes()) > 0 {
					t.Errorf("changes: %v", x.Changes())
				}
				wantAll(t, x, p)
			}
		}
	}
}

func TestSaveInAFullVolume(t *testing.T) {
	x := txn.New(empty(10))
	p := wantSave(t, x, empty(10), []slot.Slot{file(1, 768), file(2, 192)}, api.OK)
	p = wantSave(t, x, p, []slot.Slot{file(3, 1)}, api.ErrNoSpc)
	p = wantSave(t, x, p, []slot.Slot{file(2, 193)}, api.ErrNoSpc)
	p = wantSave(t, x, p, []slot.Slot{file(3, 1), file(2, 97)}, api.ErrNoSpc)
	p = wantSave(t, x, p, []slot.Slot{file(1, 192), file(2, 768)}, api.OK)
	p = wantSave(t, x, p, []slot.Slot{file(3, 96), file(2, 600)}, api.OK)
	wantAll(t, x, p)
}

func TestSaveAllOfTheGreatestVolume(t *testing.T) {
	x, p := txn.New(empty(768)), empty(768)
	var l []slot.Slot
	for ino := range uint32(24) {
		l = append(l, file(23-ino, 768))
	}
	p = wantSave(t, x, p, l, api.OK)
	wantAll(t, x, p)
	if n := vol.Free(x); n != 576 {
		t.Errorf("Free = %d", n)
	}
}

func TestSaveInTheLastBlocks(t *testing.T) {
	p := empty(768)
	p[9] = bytes.Repeat([]byte{255}, 96)
	p[9][95] = 0xfa // 765 and 767 are free
	x := txn.New(p)
	p = wantSave(t, x, p, []slot.Slot{file(0, 193)}, api.ErrNoSpc)
	p = wantSave(t, x, p, []slot.Slot{file(0, 192)}, api.OK)
	if n, _ := inode.Get(p[11]); !slices.Equal(n.Blocks, []uint32{765, 767}) || vol.Free(x) != 0 {
		t.Errorf("inode 0 has %v, and %d are free", n.Blocks, vol.Free(x))
	}
}

func TestSaveMap(t *testing.T) {
	p := empty(30)
	p[9] = []byte{0, 0, 0}
	x := txn.New(p)
	p = wantSave(t, x, p, []slot.Slot{{Ino: 1, Gen: 2}, file(2, 0)}, api.OK)
	if len(p[9]) != 3 {
		t.Errorf("Map became %v without a reason", p[9])
	}
	p = wantSave(t, x, p, []slot.Slot{file(2, 1)}, api.OK)
	if !bytes.Equal(p[9], []byte{128}) {
		t.Errorf("Map is %v", p[9])
	}
	put(t, x, 9, []byte{128, 0})
	p = wantSave(t, x, picture(x), []slot.Slot{file(1, 0)}, api.OK)
	if !bytes.Equal(p[9], []byte{128, 0}) {
		t.Errorf("Map is %v", p[9])
	}
	p = wantSave(t, x, p, []slot.Slot{file(2, 0)}, api.OK)
	if len(p[9]) != 0 {
		t.Errorf("Map is %v", p[9])
	}
}

// TestSaveOverDefects asks for what the document says, even of a volume with defects.
func TestSaveOverDefects(t *testing.T) {
	p := empty(10)
	p[9] = []byte{0x21, 0x20, 0x01, 0}  // 2 and 7, and 10 and 23, which do not exist
	p[11+1] = fileBytes(200, 2, 10, 23) // a data block, and two that are none
	p[11+2] = fileBytes(200, 2, 3, 4)   // one that another one has, and two that are not allocated
	p[11+3] = fileBytes(96, math.MaxUint32)
	p[35+2], p[35+4], p[35+5] = patterned(96), patterned(1), patterned(7)
	for _, l := range [][]slot.Slot{
		{{Ino: 1}}, {{Ino: 2}}, {{Ino: 3}}, {{Ino: 1}, {Ino: 2}}, {file(2, 100)}, {file(1, 300)}, {file(4, 300)},
		{file(3, 96)}, {file(1, 400), file(2, 300)}, {file(1, 700), file(2, 96)},
	} {
		x := txn.New(p)
		wantAll(t, x, wantSave(t, x, p, l, api.OK))
	}
	for _, l := range [][]slot.Slot{{file(1, 768), file(2, 97)}, {file(4, 768), file(5, 1)}} {
		x := txn.New(p)
		wantSave(t, x, p, l, api.ErrNoSpc)
	}
}

func TestSaveDoesNotChangeOrRetain(t *testing.T) {
	x := txn.New(empty(10))
	l := []slot.Slot{file(4, 300), directory(2, 4)}
	want, _ := empty(10).save(l)
	room := append(patterned(300), patterned(50)...)
	l[0].Data = room[:300]
	if e := vol.Save(x, l); e != api.OK {
		t.Fatal(e)
	}
	if !sameSlots(l, []slot.Slot{file(4, 300), directory(2, 4)}) || !bytes.Equal(room[300:], patterned(50)) {
		t.Error("the argument was changed")
	}
	clear(room)
	clear(l[1].Data)
	clear(l)
	wantBlocks(t, x, want)
}

func TestSaveKeepsWhatWasPut(t *testing.T) {
	p := empty(10)
	x := txn.New(p)
	put(t, x, 0, []byte("mark"))
	put(t, x, 3, []byte("reply"))
	p = wantSave(t, x, picture(x), []slot.Slot{file(4, 300)}, api.OK)
	apart := x.Fork()
	before := p
	p = wantSave(t, x, p, []slot.Slot{file(4, 10), file(5, 500)}, api.OK)
	wantBlocks(t, apart, before)
	if string(p[0]) != "mark" || string(p[3]) != "reply" {
		t.Errorf("blocks 0 and 3 are %q and %q", p[0], p[3])
	}
}

// P12.3

func TestFree(t *testing.T) {
	for _, data := range []int{1, 7, 8, 9, 20, 768} {
		p := empty(data)
		for at := range data {
			p.allocate(at, true)
			if n := vol.Free(txn.New(p)); n != data-at-1 {
				t.Errorf("Free = %d, want %d", n, data-at-1)
			}
		}
		p.allocate(data-1, false)
		p[9] = append(p[9], 255, 255) // beyond the data blocks
		if data%8 == 0 {
			wantAll(t, txn.New(p), p)
		}
	}
	p := empty(3)
	p[9] = []byte{0x5f, 0xff}
	if n := vol.Free(txn.New(p)); n != 2 {
		t.Errorf("Free = %d, want 2", n)
	}
}

func TestFreeOfAnyMap(t *testing.T) {
	seed := uint64(1)
	for range 2000 {
		p := empty(1 + below(&seed, 100))
		for range below(&seed, 14) {
			p[9] = append(p[9], byte(noise(&seed)))
		}
		if n := vol.Free(txn.New(p)); n != p.free() {
			t.Errorf("Free with Map %v of %d = %d, want %d", p[9], p.room(), n, p.free())
		}
	}
}

func TestSetChange(t *testing.T) {
	x, p := txn.New(empty(1)), empty(1)
	numbers := []uint64{0, 1, 300, 1 << 32, 0x0102030405060708, math.MaxUint64, 1 << 63, 0, 255, math.MaxUint32}
	for _, n := range numbers {
		if e := vol.SetChange(x, n); e != api.OK {
			t.Errorf("SetChange(%d) = %d", n, e)
		}
		p[10] = binary.BigEndian.AppendUint64(nil, n)
		if n == 0 {
			p[10] = nil
		}
		wantBlocks(t, x, p)
		if got, e := vol.Change(x); got != n || e != api.OK {
			t.Errorf("Change = %d, %d, want %d", got, e, n)
		}
	}
	put(t, x, 10, []byte("what is no number"))
	if e := vol.SetChange(x, 5); e != api.OK {
		t.Errorf("SetChange = %d", e)
	}
	p[10] = []byte{0, 0, 0, 0, 0, 0, 0, 5}
	wantBlocks(t, x, p)
}

func TestChangeRefuses(t *testing.T) {
	x := txn.New(empty(1))
	for n := 1; n <= 96; n++ {
		for _, c := range []byte{0, 1, 255} {
			b := bytes.Repeat([]byte{c}, n)
			want := api.ErrForm
			if n == 8 && c != 0 {
				want = api.OK
			}
			put(t, x, 10, b)
			got, e := vol.Change(x)
			if e != want || (got == 0) != (want != api.OK) {
				t.Errorf("Change of %v = %d, %d", b, got, e)
			}
			if text := vol.Wrong(x); (text == "") != (want == api.OK) {
				t.Errorf("Wrong with Meta %v = %q", b, text)
			}
		}
	}
}

// P12.4

func TestWrong(t *testing.T) {
	good, e := empty(12).save([]slot.Slot{directory(0, 2), file(1, 96), file(2, 97), {Ino: 3, Gen: 4}}) // of 1, 1 and 2 blocks
	if e != api.OK {
		t.Fatal(e)
	}
	if text := vol.Wrong(txn.New(good)); text != "" {
		t.Fatalf("Wrong = %q", text)
	}
	defects := map[string]func(p plain){
		"an inode that cannot be read":            func(p plain) { p[11+23] = []byte{0} },
		"an inode of the wrong form":              func(p plain) { p[11+3] = make([]byte, 48) },
		"a block of another length":               func(p plain) { p[35+3] = patterned(2) },
		"a block that is empty":                   func(p plain) { p[35+1] = nil },
		"a block that does not exist":             func(p plain) { p[11+5] = fileBytes(1, 12) },
		"one that Map has":                        func(p plain) { p[11+5] = fileBytes(1, 12); p.allocate(12, true) },
		"entries that dir refuses":                func(p plain) { p[35][23] = 255 },
		"no number of changes":                    func(p plain) { p[10] = []byte{1} },
		"allocated, and of no inode":              func(p plain) { p.allocate(4, true) },
		"the last one is":                         func(p plain) { p.allocate(11, true) },
		"allocated, of no inode, with bytes":      func(p plain) { p.allocate(4, true); p[35+4] = patterned(5) },
		"of an inode, and not allocated":          func(p plain) { p.allocate(3, false) },
		"Map is empty":                            func(p plain) { p[9] = nil },
		"a block of two inodes":                   func(p plain) { p[11+5] = fileBytes(96, 1) },
		"of two, and not allocated":               func(p plain) { p[11+5] = fileBytes(96, 1); p.allocate(1, false) },
		"the first one of two":                    func(p plain) { p[11+5] = fileBytes(96, 2) },
		"free, and not empty":                     func(p plain) { p[35+4] = []byte{0} },
		"the last one is free, and not empty":     func(p plain) { p[35+11] = patterned(96) },
		"a bit just beyond the data blocks":       func(p plain) { p.allocate(12, true) },
		"a bit in the last byte of the bitmap":    func(p plain) { p.allocate(15, true) },
		"a bit beyond that byte":                  func(p plain) { p.allocate(16, true) },
		"a bit at the end of the greatest bitmap": func(p plain) { p.allocate(767, true) },
		"a bit beyond the greatest bitmap":        func(p plain) { p.allocate(800, true) },
	}
	for name, damage := range defects {
		p := good.clone()
		damage(p)
		if p.sound() {
			t.Errorf("%s is no defect", name)
		}
		x := txn.New(p)
		if text := vol.Wrong(x); text == "" || text == "no volume" {
			t.Errorf("Wrong with %s = %q", name, text)
		}
		wantBlocks(t, x, p)
	}
}

func TestNotWrong(t *testing.T) {
	good, _ := empty(12).save([]slot.Slot{directory(0, 2), file(1, 96), file(2, 97), {Ino: 3, Gen: 4}})
	allowed := map[string]func(p plain){
		"zero bytes at the end of Map": func(p plain) { p[9] = append(p[9], 0, 0, 0) },
		"a number of changes":          func(p plain) { p[10] = []byte{0, 0, 0, 0, 0, 0, 0, 1} },
		"blocks of other layers":       func(p plain) { p[0], p[1], p[8] = []byte("a"), []byte("b"), []byte("c") },
		"any block that is free":       func(p plain) { p[11+5], p[35+9] = fileBytes(7, 9), patterned(7); p.allocate(9, true) },
	}
	for name, change := range allowed {
		p := good.clone()
		change(p)
		if text := vol.Wrong(txn.New(p)); text != "" {
			t.Errorf("Wrong with %s = %q", name, text)
		}
	}
}

// P12.5

func TestManySaves(t *testing.T) {
	seed := uint64(2)
	count := map[api.Errno]int{}
	for _, data := range []int{1, 5, 8, 20, 60, 100, 192, 768} {
		x, p := txn.New(empty(data)), empty(data)
		have, _ := vol.All(x)
		for range 60 {
			l := someSlots(&seed, below(&seed, 25), 1+below(&seed, 768))
			_, e := p.save(l)
			count[e]++
			p = wantSave(t, x, p, l, e)
			for _, s := range l {
				if e == api.OK {
					have[s.Ino] = s
				}
			}
			if got, e := vol.All(x); e != api.OK || !sameSlots(got, have) {
				t.Errorf("All = %v, %d, want %v", got, e, have)
			}
			if text := vol.Wrong(x); text != "" {
				t.Errorf("Wrong = %q", text)
			}
			if t.Failed() {
				return
			}
		}
	}
	if count[api.OK] < 100 || count[api.ErrNoSpc] < 50 || len(count) > 2 {
		t.Errorf("the results of Save: %v", count)
	}
}

// damage makes one of the blocks of p another one.
func damage(seed *uint64, p plain) {
	at := 9 + below(seed, len(p)-9)
	switch below(seed, 6) {
	case 0:
		at = 9
	case 1:
		at = 11 + below(seed, 24)
		blocks := []uint32{noise(seed) % uint32(p.room()+3), noise(seed) % uint32(p.room()+3)}
		p[at] = fileBytes(uint32(97+below(seed, 97)), blocks...)
		return
	case 2:
		p[at] = nil
		return
	}
	if len(p[at]) == 0 {
		p[at] = []byte{0}
	}
	p[at][below(seed, len(p[at]))] ^= 1 << below(seed, 8)
}

// TestManyDefects holds all calls against plain volumes that were damaged.
func TestManyDefects(t *testing.T) {
	seed := uint64(3)
	count := map[api.Errno]int{}
	sound := 0
	for range 1500 {
		p := empty(1 + below(&seed, 40))
		p, _ = p.save(someSlots(&seed, below(&seed, 10), 400))
		for range below(&seed, 4) {
			damage(&seed, p)
		}
		x := txn.New(p)
		wantAll(t, x, p)
		for range 3 {
			l := someSlots(&seed, below(&seed, 10), 300)
			_, e := p.save(l)
			count[e]++
			was := p.sound()
			p = wantSave(t, x, p, l, e)
			wantAll(t, x, p)
			if was {
				sound++
			}
			if was && !p.sound() {
				t.Error("Save made a defect")
			}
		}
		if t.Failed() {
			return
		}
	}
	if count[api.OK] < 1000 || count[api.ErrNoSpc] < 100 || len(count) < 4 || sound < 500 {
		t.Errorf("the results of Save: %v; %d of volumes without a defect", count, sound)
	}
}

func TestSaveThroughAJournal(t *testing.T) {
	d, e := disk.New(200)
	if e != api.OK {
		t.Fatal(e)
	}
	j, e := journal.Open(d, 80, 35+60)
	if e != api.OK {
		t.Fatal(e)
	}
	seed, p := uint64(4), empty(60)
	for i := range 60 {
		l := someSlots(&seed, below(&seed, 6), 300)
		x := txn.New(j.All())
		_, e := p.save(l)
		p = wantSave(t, x, p, l, e)
		vol.SetChange(x, uint64(i))
		p[10] = x.Get(10)
		if changes := x.Changes(); len(changes) > 0 {
			if e := j.Commit(changes); e != api.OK {
				t.Fatal(e)
			}
		}
		if i%10 == 9 {
			d.Crash(nil)
			if j, e = journal.Open(d, 80, 35+60); e != api.OK {
				t.Fatal(e)
			}
		}
		wantAll(t, txn.New(j.All()), p)
	}
}
