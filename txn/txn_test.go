package txn_test

import (
	"bytes"
	"math"
	"testing"

	"removalist/api"
	"removalist/disk"
	"removalist/journal"
	"removalist/txn"
)

// noise is the next of a fixed sequence of numbers without a visible pattern.
func noise(x *uint64) uint32 {
	*x = *x*6364136223846793005 + 1442695040888963407
	return uint32(*x >> 32)
}

// below is noise from 0 to n-1.
func below(x *uint64, n int) int { return int(noise(x)) % n }

// blocks returns a block for each text.
func blocks(l ...string) [][]byte {
	var out [][]byte
	for _, s := range l {
		out = append(out, []byte(s))
	}
	return out
}

// someBytes returns at most most bytes, often few, so that the same ones come again.
func someBytes(seed *uint64, most int) []byte {
	switch below(seed, 4) {
	case 0:
		return nil
	case 1:
		return bytes.Repeat([]byte{byte(noise(seed))}, most)
	}
	b := make([]byte, below(seed, 3))
	for i := range b {
		b[i] = byte(below(seed, 2))
	}
	return b
}

// plain is a transaction as the document words it, with what was put at the same index as the blocks; put says where something was.
type plain struct {
	l, puts [][]byte
	put     []bool
}

func newPlain(l [][]byte) *plain {
	return &plain{l: l, puts: make([][]byte, len(l)), put: make([]bool, len(l))}
}

func (p *plain) get(i int) []byte {
	if p.put[i] {
		return p.puts[i]
	}
	return p.l[i]
}

func (p *plain) set(i int, b []byte) { p.puts[i], p.put[i] = b, true }

func (p *plain) changes() []journal.Write {
	var out []journal.Write
	for i := range p.l {
		if string(p.get(i)) != string(p.l[i]) {
			out = append(out, journal.Write{At: i, Body: p.get(i)})
		}
	}
	return out
}

func (p *plain) fork() *plain {
	out := newPlain(p.l)
	out.take(p)
	return out
}

func (p *plain) take(o *plain) {
	if len(o.l) == len(p.l) {
		copy(p.puts, o.puts)
		copy(p.put, o.put)
	}
}

func wantPut(t *testing.T, x *txn.Txn, i int, b string, want api.Errno) {
	t.Helper()
	if got := x.Put(i, []byte(b)); got != want {
		t.Errorf("Put(%d) of %d bytes returned %d, not %d", i, len(b), got, want)
	}
}

func put(t *testing.T, x *txn.Txn, i int, b string) {
	t.Helper()
	wantPut(t, x, i, b, api.OK)
}

// wantBlocks asks for the blocks as they are to become.
func wantBlocks(t *testing.T, x *txn.Txn, want ...string) {
	t.Helper()
	if x.Len() != len(want) {
		t.Errorf("Len is %d, not %d", x.Len(), len(want))
	}
	for i, s := range want {
		if got := x.Get(i); string(got) != s {
			t.Errorf("Get(%d) = %q, not %q", i, got, s)
		}
	}
}

func wantChanges(t *testing.T, x *txn.Txn, want ...journal.Write) {
	t.Helper()
	got := x.Changes()
	same := len(got) == len(want)
	for i := 0; same && i < len(got); i++ {
		same = got[i].At == want[i].At && bytes.Equal(got[i].Body, want[i].Body)
	}
	if !same {
		t.Errorf("Changes = %v, not %v", got, want)
	}
}

func change(at int, b string) journal.Write { return journal.Write{At: at, Body: []byte(b)} }

// P10.1

func TestNewHasNoChanges(t *testing.T) {
	x := txn.New(blocks("a", "", "ccc"))
	wantBlocks(t, x, "a", "", "ccc")
	wantChanges(t, x)
}

func TestNewOfNothing(t *testing.T) {
	for _, l := range [][][]byte{nil, {}} {
		x := txn.New(l)
		if x == nil {
			t.Fatal("New of no blocks returned nil")
		}
		wantBlocks(t, x)
		wantChanges(t, x)
		wantPut(t, x, 0, "a", api.ErrRange)
		if b := x.Get(0); len(b) != 0 {
			t.Errorf("Get(0) = %v", b)
		}
	}
}

func TestNewOfGreatBlocks(t *testing.T) {
	great := string(bytes.Repeat([]byte("g"), 300))
	x := txn.New(blocks(great, "b"))
	wantBlocks(t, x, great, "b")
	wantChanges(t, x)
	wantPut(t, x, 0, great, api.ErrBig)
	put(t, x, 0, great[:96])
	wantBlocks(t, x, great[:96], "b")
	wantChanges(t, x, change(0, great[:96]))
}

func TestGetOutOfRange(t *testing.T) {
	x := txn.New(blocks("a", "b"))
	put(t, x, 1, "c")
	for _, i := range []int{math.MinInt, -1, 2, 3, math.MaxInt32 + 1, math.MaxInt} {
		if b := x.Get(i); len(b) != 0 {
			t.Errorf("Get(%d) = %v", i, b)
		}
	}
}

func TestGetReturnsTheLastPut(t *testing.T) {
	x := txn.New(blocks("a", "b", "c"))
	put(t, x, 1, "d")
	wantBlocks(t, x, "a", "d", "c")
	put(t, x, 1, "ee")
	put(t, x, 2, "f")
	wantBlocks(t, x, "a", "ee", "f")
	put(t, x, 1, "")
	wantBlocks(t, x, "a", "", "f")
}

func TestPutNilIsEmpty(t *testing.T) {
	x := txn.New(blocks("a", ""))
	for i := range 2 {
		if e := x.Put(i, nil); e != api.OK {
			t.Errorf("Put(%d, nil) returned %d", i, e)
		}
	}
	wantBlocks(t, x, "", "")
	wantChanges(t, x, change(0, ""))
}

func TestPutErrors(t *testing.T) {
	most, more := string(make([]byte, 96)), string(make([]byte, 97))
	x := txn.New(blocks("a", "b", "c"))
	put(t, x, 1, "d")
	for _, i := range []int{math.MinInt, -1, 3, 4, math.MaxInt32 + 1, math.MaxInt} {
		wantPut(t, x, i, "e", api.ErrRange)
		wantPut(t, x, i, "", api.ErrRange)
		wantPut(t, x, i, more, api.ErrRange)
	}
	for i := range 3 {
		wantPut(t, x, i, more, api.ErrBig)
		wantPut(t, x, i, string(make([]byte, 5000)), api.ErrBig)
	}
	wantBlocks(t, x, "a", "d", "c")
	wantChanges(t, x, change(1, "d"))
	put(t, x, 2, most)
	wantBlocks(t, x, "a", "d", most)
	wantChanges(t, x, change(1, "d"), change(2, most))
}

func TestChangesAreInOrder(t *testing.T) {
	x := txn.New(make([][]byte, 300))
	var want []journal.Write
	for i := range 300 {
		at := i * 7 % 300 // each one once, since 7 and 300 have no common divisor
		put(t, x, at, string([]byte{1, byte(at)}))
		want = append(want, change(i, string([]byte{1, byte(i)})))
	}
	for range 5 {
		wantChanges(t, x, want...)
	}
}

func TestChangesAskEveryByte(t *testing.T) {
	old := string(bytes.Repeat([]byte{5}, 96))
	x := txn.New(blocks(old))
	for i := range 96 {
		other := []byte(old)
		other[i]++
		put(t, x, 0, string(other))
		wantChanges(t, x, change(0, string(other)))
		put(t, x, 0, old[:i])
		wantChanges(t, x, change(0, old[:i]))
	}
	short := txn.New(blocks("ab"))
	put(t, short, 0, "ab\x00")
	wantChanges(t, short, change(0, "ab\x00"))
}

func TestNothingIsRetainedOfArguments(t *testing.T) {
	l := blocks("a", "b")
	x := txn.New(l)
	l[0][0] = 'x'
	l[1] = []byte("y")
	wantBlocks(t, x, "a", "b")
	wantChanges(t, x)
	b := []byte("ccc")
	if e := x.Put(1, b); e != api.OK {
		t.Errorf("Put returned %d", e)
	}
	clear(b)
	wantBlocks(t, x, "a", "ccc")
	wantChanges(t, x, change(1, "ccc"))
	put(t, x, 0, "x")
	if string(l[0]) != "x" || string(l[1]) != "y" || len(l) != 2 {
		t.Error("the list that was passed in was changed")
	}
}

func TestResultsAreNewMemory(t *testing.T) {
	x := txn.New(blocks("aa", "bb", "cc"))
	put(t, x, 1, "dd")
	put(t, x, 2, "ee")
	y := x.Fork()
	for range 2 {
		for i := range 3 {
			b := x.Get(i)
			_ = append(b, 9)
			clear(b)
		}
		l := x.Changes()
		again := x.Changes()
		for i := range l {
			_ = append(l[i].Body, 9)
			clear(l[i].Body)
			l[i].At = 0
		}
		if len(again) != 2 || string(again[0].Body) != "dd" || string(again[1].Body) != "ee" {
			t.Error("a change of one result changed another one")
		}
		for _, z := range []*txn.Txn{x, y} {
			wantBlocks(t, z, "aa", "dd", "ee")
			wantChanges(t, z, change(1, "dd"), change(2, "ee"))
		}
	}
}

func TestNilTxn(t *testing.T) {
	var x *txn.Txn
	for _, i := range []int{math.MinInt, -1, 0, 1} {
		if b := x.Get(i); len(b) != 0 {
			t.Errorf("Get(%d) = %v", i, b)
		}
		wantPut(t, x, i, "a", api.ErrArg)
		wantPut(t, x, i, string(make([]byte, 97)), api.ErrArg)
	}
	wantBlocks(t, x)
	wantChanges(t, x)
}

func TestZeroTxnDoesNotPanic(t *testing.T) {
	x := new(txn.Txn)
	x.Put(0, nil)
	x.Get(0)
	x.Changes()
	y := x.Fork()
	y.Put(0, nil)
	y.Take(x)
	z := txn.New(nil)
	z.Take(x)
	z.Put(0, nil)
	x.Take(z)
}

// P10.2

func TestForkIsApart(t *testing.T) {
	x := txn.New(blocks("a", "b", "c"))
	put(t, x, 0, "d")
	y := x.Fork()
	wantBlocks(t, y, "d", "b", "c")
	wantChanges(t, y, change(0, "d"))
	put(t, y, 0, "a")
	put(t, y, 1, "e")
	put(t, x, 2, "f")
	wantBlocks(t, x, "d", "b", "f")
	wantChanges(t, x, change(0, "d"), change(2, "f"))
	wantBlocks(t, y, "a", "e", "c")
	wantChanges(t, y, change(1, "e"))
	z := y.Fork()
	put(t, z, 1, "b")
	wantChanges(t, z)
	wantChanges(t, y, change(1, "e"))
	wantChanges(t, x, change(0, "d"), change(2, "f"))
}

func TestForkWithoutPuts(t *testing.T) {
	x := txn.New(blocks("a", "b"))
	y := x.Fork()
	put(t, y, 0, "c")
	wantBlocks(t, x, "a", "b")
	wantChanges(t, x)
	put(t, x, 1, "d")
	wantBlocks(t, y, "c", "b")
	wantChanges(t, y, change(0, "c"))
	if none := txn.New(nil).Fork(); none == nil || none.Len() != 0 {
		t.Error("Fork of no blocks")
	}
}

func TestForkOfNil(t *testing.T) {
	var x *txn.Txn
	if x.Fork() != nil {
		t.Error("Fork of nil is not nil")
	}
}

func TestTakeReplacesAllPuts(t *testing.T) {
	x := txn.New(blocks("a", "b", "c"))
	y := x.Fork()
	put(t, x, 0, "x")
	put(t, x, 1, "x")
	put(t, y, 1, "y")
	put(t, y, 2, "y")
	x.Take(y)
	wantBlocks(t, x, "a", "y", "y")
	wantChanges(t, x, change(1, "y"), change(2, "y"))
	wantBlocks(t, y, "a", "y", "y")
	put(t, y, 1, "b")
	put(t, x, 0, "z")
	wantBlocks(t, x, "z", "y", "y")
	wantBlocks(t, y, "a", "b", "y")
	x.Take(txn.New(blocks("a", "b", "c")))
	wantBlocks(t, x, "a", "b", "c")
	wantChanges(t, x)
	put(t, x, 2, "w") // puts are possible after a Take of none
	wantChanges(t, x, change(2, "w"))
}

func TestTakeIsOfPutsAlone(t *testing.T) {
	x := txn.New(blocks("a", "b", "c", "d"))
	y := txn.New(blocks("p", "q", "r", "s"))
	put(t, y, 1, "q") // no change of y, but one of x
	put(t, y, 2, "c") // a change of y, but none of x
	put(t, y, 3, "t")
	wantChanges(t, y, change(2, "c"), change(3, "t"))
	x.Take(y)
	wantBlocks(t, x, "a", "q", "c", "t")
	wantChanges(t, x, change(1, "q"), change(3, "t"))
	z := x.Fork()
	y.Take(z)
	wantBlocks(t, y, "p", "q", "c", "t")
	wantChanges(t, y, change(2, "c"), change(3, "t"))
}

func TestForkHasPutsThatAreNoChange(t *testing.T) {
	x := txn.New(blocks("a"))
	put(t, x, 0, "a")
	y := txn.New(blocks("b"))
	y.Take(x.Fork())
	wantBlocks(t, y, "a")
	wantChanges(t, y, change(0, "a"))
}

func TestTakeOfItself(t *testing.T) {
	x := txn.New(blocks("a", "b"))
	put(t, x, 0, "c")
	x.Take(x)
	wantBlocks(t, x, "c", "b")
	wantChanges(t, x, change(0, "c"))
	put(t, x, 1, "d")
	wantChanges(t, x, change(0, "c"), change(1, "d"))
}

func TestTakeThatDoesNothing(t *testing.T) {
	x := txn.New(blocks("a", "b"))
	put(t, x, 0, "c")
	var none *txn.Txn
	for _, l := range [][][]byte{nil, blocks("x"), blocks("x", "y", "z")} {
		o := txn.New(l)
		if len(l) > 0 {
			put(t, o, 0, "w")
		}
		x.Take(o)
		none.Take(o)
	}
	x.Take(nil)
	none.Take(x)
	none.Take(nil)
	txn.New(nil).Take(nil)
	wantBlocks(t, x, "c", "b")
	wantChanges(t, x, change(0, "c"))
}

// P10.3

func TestPutBackIsNoChange(t *testing.T) {
	for _, was := range []string{"", "a", string(make([]byte, 96))} {
		x := txn.New(blocks("u", "v", was))
		put(t, x, 2, "x")
		wantChanges(t, x, change(2, "x"))
		put(t, x, 2, was)
		wantChanges(t, x)
		put(t, x, 0, "u")
		wantChanges(t, x)
		wantBlocks(t, x, "u", "v", was)
		put(t, x, 2, "y")
		wantChanges(t, x, change(2, "y"))
	}
}

func TestNilAndEmptyAreNoChange(t *testing.T) {
	x := txn.New([][]byte{nil, {}})
	for range 2 {
		for i := range 2 {
			x.Put(i, nil)
			wantChanges(t, x)
			x.Put(i, []byte{})
			wantChanges(t, x)
		}
	}
}

// All of it

func TestChangesMayBeCommitted(t *testing.T) {
	d, e := disk.New(100)
	if e != api.OK {
		t.Fatal(e)
	}
	j, e := journal.Open(d, 30, 20)
	if e != api.OK {
		t.Fatal(e)
	}
	seed := uint64(10)
	for range 200 {
		x := txn.New(j.All())
		for range below(&seed, 20) {
			if e := x.Put(below(&seed, 20), someBytes(&seed, 96)); e != api.OK {
				t.Fatalf("Put returned %d", e)
			}
		}
		l := x.Changes()
		if e := j.Commit(l); len(l) > 0 && e != api.OK {
			t.Fatalf("Commit of %v returned %d", l, e)
		}
		for i := range 20 {
			if !bytes.Equal(j.Read(i), x.Get(i)) {
				t.Fatalf("block %d is %v, and was to become %v", i, j.Read(i), x.Get(i))
			}
		}
		if l := txn.New(j.All()).Changes(); len(l) > 0 {
			t.Fatalf("a new transaction has the changes %v", l)
		}
	}
}

// TestManyCalls holds transactions, some of them over other blocks or of other lengths, against plain ones.
func TestManyCalls(t *testing.T) {
	seed := uint64(11)
	for range 60 {
		var xs []*txn.Txn
		var ps []*plain
		for range 3 {
			l := make([][]byte, 3+below(&seed, 2))
			for i := range l {
				l[i] = someBytes(&seed, 100)
			}
			xs, ps = append(xs, txn.New(l)), append(ps, newPlain(l))
		}
		for range 100 {
			a, b := below(&seed, len(xs)), below(&seed, len(xs))
			switch below(&seed, 8) {
			case 0:
				xs[a], ps[a] = xs[b].Fork(), ps[b].fork()
			case 1:
				xs[a].Take(xs[b])
				ps[a].take(ps[b])
			default:
				i, v := below(&seed, xs[a].Len()), someBytes(&seed, 96)
				if e := xs[a].Put(i, v); e != api.OK {
					t.Fatalf("Put(%d, %v) returned %d", i, v, e)
				}
				ps[a].set(i, v)
			}
			for k := range xs {
				var want []string
				for i := range ps[k].l {
					want = append(want, string(ps[k].get(i)))
				}
				wantBlocks(t, xs[k], want...)
				wantChanges(t, xs[k], ps[k].changes()...)
			}
			if t.Failed() {
				return
			}
		}
	}
}
