package mark_test

import (
	"bytes"
	"encoding/binary"
	"math"
	"testing"

	"removalist/api"
	"removalist/mark"
	"removalist/txn"
)

// noise is the next of a fixed sequence of numbers without a visible pattern.
func noise(x *uint64) uint32 {
	*x = *x*6364136223846793005 + 1442695040888963407
	return uint32(*x >> 32)
}

// below is noise from 0 to n-1.
func below(x *uint64, n int) int { return int(noise(x) % uint32(n)) }

// encoding is the bytes of a state as the document words them, also of one that Put refuses or encodes as nothing.
func encoding(s mark.State) []byte {
	b := make([]byte, 4, 52)
	if s.Owner {
		b[3] = 1
	}
	for _, x := range []uint32{s.Phase, s.Peer} {
		b = binary.BigEndian.AppendUint32(b, x)
	}
	for _, x := range []uint64{s.Epoch, s.Seq, s.From, s.Goal} {
		b = binary.BigEndian.AppendUint64(b, x)
	}
	for _, x := range []uint32{s.Next, s.Round} {
		b = binary.BigEndian.AppendUint32(b, x)
	}
	return b
}

// content is the block that stores a state.
func content(s mark.State) []byte {
	b := encoding(s)
	if bytes.Equal(b, make([]byte, 52)) {
		return nil
	}
	return b
}

// fits is P15.1 as rows: for each phase, which Owner and which Next there may be.
func fits(s mark.State) bool {
	type row struct {
		phase       uint32
		owner       bool
		first, last uint32
	}
	for _, r := range []row{
		{0, false, 0, 32}, {0, true, 0, 32}, {1, true, 0, 32}, {2, true, 0, 32},
		{3, false, 33, 34}, {4, false, 0, 32}, {5, false, 0, 32},
	} {
		if r.phase == s.Phase && r.owner == s.Owner && r.first <= s.Next && s.Next <= r.last {
			return s.Peer <= 15 && !(s.From > s.Goal)
		}
	}
	return false
}

// full is a state whose numbers differ, each in all of its bytes that may.
func full() mark.State {
	return mark.State{
		Owner: true, Phase: mark.Frozen, Peer: 13, Epoch: 0x0102030405060708, Seq: 0x1112131415161718,
		From: 0x2122232425262728, Goal: 0x3132333435363738, Next: 29, Round: 0x41424344,
	}
}

// grid calls do for states with every mix of edges: of each field those that the document names, and numbers whose low bytes look like permitted ones.
func grid(do func(s mark.State)) {
	phases := []uint32{0, 1, 2, 3, 4, 5, 6, 7, 255, 256, 257, 1 << 16, 1 << 31, math.MaxUint32}
	peers := []uint32{0, 1, 15, 16, 17, 256, 1 << 31, math.MaxUint32}
	nexts := []uint32{256, 256 + 33, 1 << 16, 1<<31 + 33, math.MaxUint32}
	for n := range uint32(37) {
		nexts = append(nexts, n)
	}
	pairs := [][2]uint64{{0, 0}, {0, 1}, {1, 0}, {5, 5}, {1 << 32, 1}, {1, 1 << 32}, {1 << 63, 1<<63 - 1}, {math.MaxUint64, math.MaxUint64}, {math.MaxUint64, 0}}
	for _, phase := range phases {
		for _, peer := range peers {
			for _, next := range nexts {
				for _, pair := range pairs {
					s := mark.State{Phase: phase, Peer: peer, From: pair[0], Goal: pair[1], Next: next}
					do(s)
					s.Owner = true
					do(s)
				}
			}
		}
	}
}

// someState returns one that need not be permitted, but often is.
func someState(seed *uint64) mark.State {
	s := mark.State{
		Owner: below(seed, 2) == 0, Phase: uint32(below(seed, 7)), Peer: uint32(below(seed, 17)),
		Epoch: uint64(below(seed, 3)), Seq: uint64(noise(seed)) << 20,
		From: uint64(below(seed, 3)), Goal: uint64(below(seed, 4)), Next: uint32(below(seed, 36)), Round: uint32(below(seed, 4)),
	}
	if below(seed, 5) == 0 {
		s = mark.State{Owner: s.Owner}
	}
	if s.Phase == mark.Gone && below(seed, 3) > 0 {
		s.Owner, s.Next = false, 33+uint32(below(seed, 2))
	}
	return s
}

// filled returns a transaction of some blocks, each with bytes of its own.
func filled(blocks int) *txn.Txn {
	l := make([][]byte, blocks)
	for i := range l {
		l[i] = bytes.Repeat([]byte{byte(i + 1)}, i+1)
	}
	return txn.New(l)
}

// with returns a transaction of two blocks, the first one being b.
func with(b []byte) *txn.Txn { return txn.New([][]byte{b, {7}}) }

// picture returns the blocks as they are to become.
func picture(x *txn.Txn) [][]byte {
	out := make([][]byte, x.Len())
	for i := range out {
		out[i] = x.Get(i)
	}
	return out
}

// wantBlocks compares all blocks.
func wantBlocks(t *testing.T, x *txn.Txn, want [][]byte) {
	t.Helper()
	got := picture(x)
	if len(got) != len(want) {
		t.Fatalf("%d blocks, want %d", len(got), len(want))
	}
	for i := range want {
		if !bytes.Equal(got[i], want[i]) {
			t.Errorf("block %d is %v, want %v", i, got[i], want[i])
		}
	}
}

func wantPut(t *testing.T, s mark.State, want []byte, wanted api.Errno) {
	t.Helper()
	if b, e := mark.Put(s); e != wanted || !bytes.Equal(b, want) {
		t.Errorf("Put(%v) = %v, %d, want %v, %d", s, b, e, want, wanted)
	}
}

// wantGet asks Get for the bytes, and Load for a block of them; with an error, want is the zero state.
func wantGet(t *testing.T, b []byte, want mark.State, wanted api.Errno) {
	t.Helper()
	given := bytes.Clone(b)
	if s, e := mark.Get(b); e != wanted || s != want {
		t.Errorf("Get(%v) = %v, %d, want %v, %d", b, s, e, want, wanted)
	}
	if !bytes.Equal(b, given) {
		t.Errorf("Get changed %v", given)
	}
	x := with(b)
	if s, e := mark.Load(x); e != wanted || s != want {
		t.Errorf("Load of %v = %v, %d, want %v, %d", b, s, e, want, wanted)
	}
	wantBlocks(t, x, [][]byte{given, {7}})
}

// P15.1

func TestNumbers(t *testing.T) {
	got := []uint32{mark.Idle, mark.Rounds, mark.Frozen, mark.Gone, mark.Taking, mark.Ready, mark.Caches, mark.Fin, mark.Take, mark.Done}
	want := []uint32{0, 1, 2, 3, 4, 5, 24, 32, 33, 34}
	for i := range want {
		if got[i] != want[i] {
			t.Errorf("constant %d is %d, want %d", i, got[i], want[i])
		}
	}
}

func TestCheckOfEveryMix(t *testing.T) {
	good := 0
	grid(func(s mark.State) {
		want := api.ErrArg
		if fits(s) {
			want = api.OK
			good++
		}
		if e := mark.Check(s); e != want {
			t.Fatalf("Check(%v) = %d, want %d", s, e, want)
		}
	})
	if want := (6*33 + 2) * 3 * 5; good != want { // rows of fits, peers, and pairs
		t.Errorf("%d states are permitted, want %d", good, want)
	}
}

func TestCheckOfOneFaultEach(t *testing.T) {
	base := full()
	faults := map[string]func(s *mark.State){
		"Phase": func(s *mark.State) { s.Phase = 6 },
		"Next":  func(s *mark.State) { s.Next = 33 },
		"Done":  func(s *mark.State) { s.Next = 34 },
		"Peer":  func(s *mark.State) { s.Peer = 16 },
		"Owner": func(s *mark.State) { s.Owner = false },
		"From":  func(s *mark.State) { s.From = s.Goal + 1 },
		"Gone":  func(s *mark.State) { s.Owner, s.Phase = false, mark.Gone },
		"Ready": func(s *mark.State) { s.Phase = mark.Ready },
	}
	if mark.Check(base) != api.OK {
		t.Fatal("the state without a fault is refused")
	}
	for name, spoil := range faults {
		s := base
		spoil(&s)
		if e := mark.Check(s); e != api.ErrArg {
			t.Error(name, e)
		}
	}
}

func TestCheckLeavesTheOtherFieldsAlone(t *testing.T) {
	for _, x := range []uint64{0, 1, 1 << 32, 1 << 63, math.MaxUint64} {
		for _, y := range []uint64{0, 1, 1 << 32, 1 << 63, math.MaxUint64} {
			for _, round := range []uint32{0, 3, 4, 1 << 31, math.MaxUint32} {
				s := full()
				s.Epoch, s.Seq, s.Round = x, y, round
				if e := mark.Check(s); e != api.OK {
					t.Errorf("Check(%v) = %d", s, e)
				}
			}
		}
	}
}

// P15.2

func TestPutOfEveryField(t *testing.T) {
	want := []byte{
		0, 0, 0, 1, 0, 0, 0, 2, 0, 0, 0, 13,
		1, 2, 3, 4, 5, 6, 7, 8, 0x11, 0x12, 0x13, 0x14, 0x15, 0x16, 0x17, 0x18,
		0x21, 0x22, 0x23, 0x24, 0x25, 0x26, 0x27, 0x28, 0x31, 0x32, 0x33, 0x34, 0x35, 0x36, 0x37, 0x38,
		0, 0, 0, 29, 0x41, 0x42, 0x43, 0x44,
	}
	wantPut(t, full(), want, api.OK)
	wantGet(t, want, full(), api.OK)
}

func TestPutOfANewOwner(t *testing.T) {
	want := make([]byte, 52)
	want[3] = 1
	wantPut(t, mark.State{Owner: true}, want, api.OK)
	wantGet(t, want, mark.State{Owner: true}, api.OK)
}

func TestPutOfZeros(t *testing.T) {
	wantPut(t, mark.State{}, nil, api.OK)
}

func TestPutOfEachFieldAlone(t *testing.T) {
	for _, s := range []mark.State{
		{Owner: true}, {Phase: mark.Taking}, {Phase: mark.Ready}, {Peer: 1}, {Peer: 15}, {Epoch: 1}, {Epoch: 1 << 63}, {Seq: 1}, {Seq: math.MaxUint64},
		{Goal: 1}, {Goal: math.MaxUint64}, {Next: 1}, {Next: 24}, {Next: 32}, {Round: 1}, {Round: math.MaxUint32},
	} {
		wantPut(t, s, encoding(s), api.OK)
		wantGet(t, encoding(s), s, api.OK)
	}
}

func TestPutAndGetOfEveryMix(t *testing.T) {
	grid(func(s mark.State) {
		switch {
		case t.Failed(): // the first one is enough
		case !fits(s):
			wantPut(t, s, nil, api.ErrArg)
			wantGet(t, encoding(s), mark.State{}, api.ErrForm)
		case s == mark.State{}:
			wantPut(t, s, nil, api.OK)
		default:
			wantPut(t, s, encoding(s), api.OK)
			wantGet(t, encoding(s), s, api.OK)
		}
	})
}

func TestGetOfNothing(t *testing.T) {
	wantGet(t, nil, mark.State{}, api.OK)
	wantGet(t, []byte{}, mark.State{}, api.OK)
}

func TestGetOfZeros(t *testing.T) {
	for n := 1; n <= api.Block; n++ {
		want := api.ErrForm // Put encodes that state as nothing
		if n < 52 {
			want = api.ErrShort
		} else if n > 52 {
			want = api.ErrLeft
		}
		wantGet(t, make([]byte, n), mark.State{}, want)
	}
}

func TestGetOfEveryLength(t *testing.T) {
	whole := encoding(full())
	for n := 1; n < len(whole); n++ {
		wantGet(t, whole[:n], mark.State{}, api.ErrShort)
	}
	for n := 1; n <= api.Block; n++ {
		wantGet(t, append(bytes.Clone(whole), make([]byte, n)...), mark.State{}, api.ErrLeft)
	}
	wantGet(t, append(bytes.Clone(whole), whole...), mark.State{}, api.ErrLeft)
}

func TestGetOfStrangeOwner(t *testing.T) {
	for _, x := range []uint32{2, 3, 255, 256, 257, 1 << 24, 1<<24 + 1, 1 << 31, math.MaxUint32} {
		b := append(encoding(full()), 0, 0, 0, 0)
		binary.BigEndian.PutUint32(b, x)
		for n := 4; n <= len(b); n++ { // the first error is that of the first field
			wantGet(t, b[:n], mark.State{}, api.ErrForm)
		}
		for n := 1; n < 4; n++ {
			wantGet(t, b[:n], mark.State{}, api.ErrShort)
		}
	}
}

func TestGetPrefersErrorsOfXdr(t *testing.T) {
	for _, s := range []mark.State{{Phase: 6}, {Peer: 16}, {Next: 33}, {From: 1}, {Phase: mark.Rounds}, {}} {
		b := encoding(s)
		wantGet(t, b, mark.State{}, api.ErrForm)
		wantGet(t, b[:51], mark.State{}, api.ErrShort)
		wantGet(t, append(b, 0), mark.State{}, api.ErrLeft)
	}
}

// TestGetOfRandomBytes: bytes that Get accepts are those that Put makes of what it returns.
func TestGetOfRandomBytes(t *testing.T) {
	seed := uint64(151)
	accepted := 0
	for range 50000 {
		b := encoding(someState(&seed))
		for range below(&seed, 3) {
			b[below(&seed, len(b))] = byte(noise(&seed))
		}
		s, e := mark.Get(b)
		if e != api.OK {
			if e != api.ErrForm || s != (mark.State{}) {
				t.Fatalf("Get(%v) = %v, %d", b, s, e)
			}
			continue
		}
		accepted++
		if mark.Check(s) != api.OK || s == (mark.State{}) {
			t.Fatalf("Get(%v) = %v", b, s)
		}
		wantPut(t, s, b, api.OK)
	}
	if accepted < 1000 {
		t.Error("only", accepted)
	}
}

func TestLoadIsOfBlockZero(t *testing.T) {
	b := encoding(full())
	x := txn.New([][]byte{nil, b, b})
	if s, e := mark.Load(x); e != api.OK || s != (mark.State{}) {
		t.Error(s, e)
	}
	x.Put(0, encoding(mark.State{Epoch: 8})) // what is put counts, not what was there
	if s, e := mark.Load(x); e != api.OK || s != (mark.State{Epoch: 8}) {
		t.Error(s, e)
	}
	if s, e := mark.Load(filled(3)); e != api.ErrShort || s != (mark.State{}) {
		t.Error(s, e)
	}
}

func TestSave(t *testing.T) {
	for _, blocks := range []int{1, 2, 36} {
		x := filled(blocks)
		want := picture(x)
		for _, s := range []mark.State{full(), {Owner: true}, {}, {Phase: mark.Gone, Next: 34}} {
			want[0] = content(s)
			if e := mark.Save(x, s); e != api.OK {
				t.Fatal(e)
			}
			wantBlocks(t, x, want)
			if got, e := mark.Load(x); e != api.OK || got != s {
				t.Errorf("Load = %v, %d, want %v", got, e, s)
			}
		}
	}
}

func TestSaveRefuses(t *testing.T) {
	for _, s := range []mark.State{{Phase: 6}, {Phase: mark.Rounds}, {Owner: true, Phase: mark.Taking}, {Phase: mark.Gone, Next: 32}, {Phase: mark.Gone, Next: 35}, {Next: 33}, {Peer: 16}, {From: 1}} {
		for _, x := range []*txn.Txn{filled(3), txn.New(nil), nil} { // ErrArg comes ahead of the error of txn.Put
			want := picture(x)
			if e := mark.Save(x, s); e != api.ErrArg {
				t.Errorf("Save(%v) = %d", s, e)
			}
			wantBlocks(t, x, want)
		}
	}
}

func TestSaveReturnsErrorsOfTxn(t *testing.T) {
	for _, s := range []mark.State{full(), {}} {
		if e := mark.Save(txn.New(nil), s); e != api.ErrRange {
			t.Errorf("Save(%v) to no blocks: %d", s, e)
		}
		if e := mark.Save(nil, s); e != api.ErrArg {
			t.Errorf("Save(%v) to nil: %d", s, e)
		}
	}
}

func TestLoadWithoutBlocks(t *testing.T) {
	for _, x := range []*txn.Txn{txn.New(nil), nil} {
		if s, e := mark.Load(x); e != api.OK || s != (mark.State{}) {
			t.Error(s, e)
		}
	}
}

func TestMemoryIsNew(t *testing.T) {
	b, _ := mark.Put(full())
	clear(b)
	wantPut(t, full(), encoding(full()), api.OK)
}

// P15.3

// TestRandomRuns holds Save and Load against a plain model: the last state that was accepted.
func TestRandomRuns(t *testing.T) {
	seed := uint64(15)
	for range 100 {
		x := filled(1 + below(&seed, 4))
		x.Put(0, nil)
		want := picture(x)
		var stored mark.State
		for range 50 {
			s, wanted := someState(&seed), api.ErrArg
			if fits(s) {
				wanted, stored, want[0] = api.OK, s, content(s)
			}
			if e := mark.Save(x, s); e != wanted {
				t.Fatalf("Save(%v) = %d, want %d", s, e, wanted)
			}
			if got, e := mark.Load(x); e != api.OK || got != stored {
				t.Fatalf("Load = %v, %d, want %v", got, e, stored)
			}
			wantBlocks(t, x, want)
		}
	}
}
