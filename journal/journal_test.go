package journal_test

import (
	"bytes"
	"math"
	"slices"
	"testing"

	"removalist/api"
	"removalist/disk"
	"removalist/journal"
	"removalist/sector"
)

// noise is the next of a fixed sequence of numbers without a visible pattern.
func noise(x *uint64) uint32 {
	*x = *x*6364136223846793005 + 1442695040888963407
	return uint32(*x >> 32)
}

func body(x byte, n int) []byte {
	b := make([]byte, n)
	for i := range b {
		b[i] = x + byte(i)*3
	}
	return b
}

func newDisk(t *testing.T, n int) *disk.Disk {
	t.Helper()
	d, e := disk.New(n)
	if e != api.OK {
		t.Fatalf("disk.New(%d) returned %d", n, e)
	}
	return d
}

func open(t *testing.T, d *disk.Disk, log, blocks int) *journal.Journal {
	t.Helper()
	j, e := journal.Open(d, log, blocks)
	if e != api.OK || j == nil {
		t.Fatalf("Open(%d, %d) = %v, %d", log, blocks, j, e)
	}
	return j
}

func bytesOf(t *testing.T, f sector.Frame) []byte {
	t.Helper()
	b, e := sector.Put(f)
	if e != api.OK {
		t.Fatalf("sector.Put(%v) returned %d", f, e)
	}
	return b
}

// lay writes frames to consecutive sectors, durably.
func lay(t *testing.T, d *disk.Disk, first int, l ...sector.Frame) {
	t.Helper()
	for i, f := range l {
		if e := d.Write(first+i, bytesOf(t, f)); e != api.OK {
			t.Fatalf("Write(%d) returned %d", first+i, e)
		}
	}
	if e := d.Flush(); e != api.OK {
		t.Fatalf("Flush returned %d", e)
	}
}

// layRound is lay in the log, from a position on.
func layRound(t *testing.T, d *disk.Disk, log, position int, l ...sector.Frame) {
	t.Helper()
	for i, f := range l {
		lay(t, d, 1+(position+i)%log, f)
	}
}

// spoil inverts a bit of a sector.
func spoil(t *testing.T, d *disk.Disk, i int) {
	t.Helper()
	b, e := d.Read(i)
	if e != api.OK {
		t.Fatalf("Read(%d) returned %d", i, e)
	}
	b[40] ^= 4
	d.Write(i, b)
	d.Flush()
}

// change returns the frames of a change, as the document words them.
func change(seq uint64, l ...journal.Write) []sector.Frame {
	var out []sector.Frame
	for i, w := range l {
		out = append(out, sector.Frame{Kind: sector.Data, Index: i, Count: len(l), Seq: seq, At: uint32(w.At), Body: w.Body})
	}
	return append(out, sector.Frame{Kind: sector.Commit, Index: len(l), Count: len(l), Seq: seq})
}

func home(seq uint64, at int, b []byte) sector.Frame {
	return sector.Frame{Kind: sector.Home, Seq: seq, At: uint32(at), Body: b}
}

func super(seq uint64, at int) sector.Frame {
	return sector.Frame{Kind: sector.Super, Seq: seq, At: uint32(at)}
}

// writes returns a change of the blocks at, with bytes that depend on x.
func writes(x byte, at ...int) []journal.Write {
	var out []journal.Write
	for _, i := range at {
		out = append(out, journal.Write{At: i, Body: body(x+byte(i), int(x)%50+1)})
	}
	return out
}

// upTo returns the numbers below n.
func upTo(n int) []int {
	var out []int
	for i := range n {
		out = append(out, i)
	}
	return out
}

// blocksOf returns n blocks after the given changes.
func blocksOf(n int, changes ...[]journal.Write) [][]byte {
	out := make([][]byte, n)
	for _, l := range changes {
		for _, w := range l {
			out[w.At] = bytes.Clone(w.Body)
		}
	}
	return out
}

func sameBlocks(a, b [][]byte) bool {
	return slices.EqualFunc(a, b, bytes.Equal)
}

func wantErr(t *testing.T, what string, got, want api.Errno) {
	t.Helper()
	if got != want {
		t.Errorf("%s returned %d, want %d", what, got, want)
	}
}

func wantState(t *testing.T, j *journal.Journal, seq uint64, used int, e api.Errno) {
	t.Helper()
	if j.Seq() != seq || j.Used() != used || j.Err() != e {
		t.Errorf("Seq, Used, Err = %d, %d, %d, want %d, %d, %d", j.Seq(), j.Used(), j.Err(), seq, used, e)
	}
}

func wantBlocks(t *testing.T, j *journal.Journal, want [][]byte) {
	t.Helper()
	if got := j.All(); !sameBlocks(got, want) {
		t.Errorf("All = %v, want %v", got, want)
	}
	for i, b := range want {
		if got := j.Read(i); !bytes.Equal(got, b) {
			t.Errorf("Read(%d) = %v, want %v", i, got, b)
		}
	}
}

func commit(t *testing.T, j *journal.Journal, l []journal.Write) {
	t.Helper()
	wantErr(t, "Commit", j.Commit(l), api.OK)
}

// step is an expected call of the disk: a Flush, or a Write of a frame.
type step struct {
	flush bool
	to    int
	frame sector.Frame
}

func flushed() step { return step{flush: true} }

func written(to int, f sector.Frame) step { return step{to: to, frame: f} }

// sectorsOf returns the content of all sectors after a crash.
func sectorsOf(t *testing.T, d *disk.Disk, pick []byte) [][]byte {
	t.Helper()
	d.Crash(pick)
	out := make([][]byte, d.Len())
	for i := range out {
		b, e := d.Read(i)
		if e != api.OK {
			t.Fatalf("Read(%d) returned %d", i, e)
		}
		out[i] = b
	}
	return out
}

func perform(t *testing.T, d *disk.Disk, steps []step) {
	t.Helper()
	for _, s := range steps {
		if s.flush {
			d.Flush()
		} else {
			d.Write(s.to, bytesOf(t, s.frame))
		}
	}
}

// wantSteps compares a disk after act, stopped after each number of calls and crashed in many ways, with one on which the steps are performed. Each prepare returns the same disk anew, and what is to be done with it.
func wantSteps(t *testing.T, prepare func() (*disk.Disk, func()), steps ...step) {
	t.Helper()
	run := func(after int) *disk.Disk {
		d, act := prepare()
		d.Stop(after)
		act()
		return d
	}
	plain := func(after int) *disk.Disk {
		d, _ := prepare()
		d.Stop(after)
		perform(t, d, steps)
		return d
	}
	for after := range len(steps) + 1 {
		got, want := run(after), plain(after)
		waits := want.Waits()
		if got.Down() != want.Down() || got.Waits() != waits {
			t.Fatalf("stopped after %d calls: Down, Waits = %t, %d, want %t, %d", after, got.Down(), got.Waits(), want.Down(), waits)
		}
		picks := [][]byte{nil, bytes.Repeat([]byte{255}, waits/8+1)}
		for i := range waits {
			pick := make([]byte, i/8+1)
			pick[i/8] = 1 << (i % 8)
			picks = append(picks, pick)
		}
		for _, pick := range picks {
			if !sameBlocks(sectorsOf(t, run(after), pick), sectorsOf(t, plain(after), pick)) {
				t.Fatalf("stopped after %d calls, crashed with %v: the sectors differ", after, pick)
			}
		}
	}
	d := run(len(steps))
	if d.Flush() != api.ErrDown {
		t.Errorf("there were fewer than %d calls of the disk", len(steps))
	}
}

// P5.1

func TestOpenRanges(t *testing.T) {
	cases := []struct {
		sectors, log, blocks int
		want                 api.Errno
	}{
		{6, 4, 1, api.OK},
		{5, 4, 1, api.ErrArg},
		{1000, 3, 1, api.ErrArg},
		{1000, 0, 1, api.ErrArg},
		{1000, -1, 1, api.ErrArg},
		{1000, math.MinInt, 1, api.ErrArg},
		{1000, math.MaxInt, 1, api.ErrArg},
		{1000, 4, 0, api.ErrArg},
		{1000, 4, -1, api.ErrArg},
		{1000, 4, math.MinInt, api.ErrArg},
		{1000, 4, math.MaxInt, api.ErrArg},
		{1000, math.MaxInt, math.MaxInt, api.ErrArg},
		{1000, 200, 400, api.OK},
		{601, 200, 400, api.OK},
		{600, 200, 400, api.ErrArg},
		{1000, 201, 1, api.ErrArg},
		{1000, 4, 401, api.ErrArg},
		{1, 4, 1, api.ErrArg},
	}
	for _, c := range cases {
		d := newDisk(t, c.sectors)
		j, e := journal.Open(d, c.log, c.blocks)
		if e != c.want || (j == nil) == (e == api.OK) {
			t.Errorf("Open(%d sectors, %d, %d) = %v, %d, want %d", c.sectors, c.log, c.blocks, j, e, c.want)
		}
		if e == api.OK && len(j.All()) != c.blocks {
			t.Errorf("Open(%d, %d) has %d blocks", c.log, c.blocks, len(j.All()))
		}
		d.Stop(0)
		d.Flush()
		want := api.ErrArg
		if c.want == api.OK {
			want = api.ErrDown
		}
		if j, e := journal.Open(d, c.log, c.blocks); j != nil || e != want {
			t.Errorf("Open(%d sectors that are down, %d, %d) = %v, %d, want %d", c.sectors, c.log, c.blocks, j, e, want)
		}
	}
	if j, e := journal.Open(nil, 4, 1); j != nil || e != api.ErrArg {
		t.Errorf("Open(nil) = %v, %d", j, e)
	}
	if j, e := journal.Open(new(disk.Disk), 4, 1); j != nil || e != api.ErrArg {
		t.Errorf("Open of no sectors = %v, %d", j, e)
	}
}

func TestOpenNewDisk(t *testing.T) {
	d := newDisk(t, 30)
	d.Stop(0)
	j := open(t, d, 8, 6)
	wantState(t, j, 0, 0, api.OK)
	wantBlocks(t, j, blocksOf(6))
	if d.Down() || d.Waits() != 0 {
		t.Error("the disk was written")
	}
}

func TestHomeSectors(t *testing.T) {
	cases := []struct {
		what  string
		frame sector.Frame
		valid bool
	}{
		{"a block", home(7, 2, body(1, 20)), true},
		{"no bytes", home(7, 2, nil), true},
		{"96 bytes", home(7, 2, body(1, 96)), true},
		{"97 bytes", home(7, 2, body(1, 97)), false},
		{"108 bytes", home(7, 2, body(1, 108)), false},
		{"the block before", home(7, 1, body(1, 20)), false},
		{"the block after", home(7, 3, body(1, 20)), false},
		{"a number of more than 16 bits", home(7, 2+1<<16, body(1, 20)), false},
		{"an Index and a Count", sector.Frame{Kind: sector.Home, Index: 9, Count: 255, At: 2, Body: body(1, 20)}, true},
		{"the greatest Seq", home(math.MaxUint64, 2, body(1, 20)), true},
		{"Data", sector.Frame{Kind: sector.Data, At: 2, Body: body(1, 20)}, false},
		{"Commit", sector.Frame{Kind: sector.Commit, At: 2, Body: body(1, 20)}, false},
		{"Super", sector.Frame{Kind: sector.Super, At: 2, Body: body(1, 20)}, false},
	}
	for _, c := range cases {
		d := newDisk(t, 30)
		lay(t, d, 1+8+2, c.frame)
		j := open(t, d, 8, 6)
		want := blocksOf(6)
		if c.valid {
			want[2] = c.frame.Body
		}
		if !sameBlocks(j.All(), want) {
			t.Errorf("a home sector with %s: %v", c.what, j.All())
		}
		wantState(t, j, 0, 0, api.OK)
		spoil(t, d, 1+8+2)
		wantBlocks(t, open(t, d, 8, 6), blocksOf(6))
	}
}

func TestEveryHomeSector(t *testing.T) {
	d := newDisk(t, 1+200+400)
	want := blocksOf(400)
	for i := range want {
		want[i] = body(byte(i), i%97)
		lay(t, d, 1+200+i, home(1, i, want[i]))
	}
	wantBlocks(t, open(t, d, 200, 400), want)
}

func TestSuperblock(t *testing.T) {
	const log = 8
	cases := []struct {
		what  string
		frame sector.Frame
		valid bool
	}{
		{"the first position", super(40, 0), true},
		{"a position", super(40, 5), true},
		{"the last position", super(40, log-1), true},
		{"the first position that is none", super(40, log), false},
		{"the greatest At", super(40, math.MaxUint32), false},
		{"an At of more than 16 bits", super(40, 1<<16), false},
		{"an Index, a Count and a Body", sector.Frame{Kind: sector.Super, Index: 3, Count: 4, Seq: 40, At: 3, Body: body(1, 108)}, true},
		{"a great Seq", super(math.MaxUint64-1, 1), true},
		{"Home", sector.Frame{Kind: sector.Home, Seq: 40, At: 3}, false},
		{"Data", sector.Frame{Kind: sector.Data, Seq: 40, At: 3}, false},
		{"Commit", sector.Frame{Kind: sector.Commit, Seq: 40, At: 3}, false},
	}
	for _, c := range cases {
		for _, spoiled := range []bool{false, true} {
			d := newDisk(t, 30)
			lay(t, d, 0, c.frame)
			if spoiled {
				spoil(t, d, 0)
			}
			seq, at := uint64(0), 0
			if c.valid && !spoiled {
				seq, at = c.frame.Seq, int(c.frame.At)
			}
			wantState(t, open(t, d, log, 6), seq, 0, api.OK)
			l := writes(1, 0, 4)
			layRound(t, d, log, at, change(seq+1, l...)...)
			j := open(t, d, log, 6)
			if !sameBlocks(j.All(), blocksOf(6, l)) {
				t.Errorf("a superblock with %s (spoiled: %t): the log does not continue at %d", c.what, spoiled, at)
			}
			wantState(t, j, seq+1, 3, api.OK)
		}
	}
}

func TestReplay(t *testing.T) {
	const log, blocks = 12, 7
	first, second, third := writes(1, 0, 3), writes(2, 3, 6), writes(3, 1, 2, 3, 5)
	for at := range log {
		d := newDisk(t, 1+log+blocks)
		lay(t, d, 0, super(90, at))
		layRound(t, d, log, at, slices.Concat(change(91, first...), change(92, second...), change(93, third...))...)
		j := open(t, d, log, blocks)
		wantState(t, j, 93, 3+3+5, api.OK)
		wantBlocks(t, j, blocksOf(blocks, first, second, third))

		d = newDisk(t, 1+log+blocks)
		lay(t, d, 0, super(90, at))
		layRound(t, d, log, at, slices.Concat(change(91, first...), change(93, second...), change(92, third...))...)
		j = open(t, d, log, blocks)
		wantState(t, j, 91, 3, api.OK)
		wantBlocks(t, j, blocksOf(blocks, first))
	}
}

// The log is circular, so what follows a log that is full is its own first change, which is not applied again.
func TestReplayFullLog(t *testing.T) {
	const log, blocks = 8, 7
	whole := writes(5, 0, 1, 2, 3, 4, 5, 6)
	one := writes(9, 2)
	for at := range log {
		d := newDisk(t, 1+log+blocks)
		lay(t, d, 0, super(3, at))
		layRound(t, d, log, at, change(4, whole...)...)
		j := open(t, d, log, blocks)
		wantState(t, j, 4, log, api.OK)
		wantBlocks(t, j, blocksOf(blocks, whole))

		for k := range 4 {
			layRound(t, d, log, at+2*k, change(uint64(4+k), one...)...)
		}
		j = open(t, d, log, blocks)
		wantState(t, j, 7, log, api.OK)
	}
}

func TestReplayManyBlocks(t *testing.T) {
	for _, n := range []int{1, 99, 100, 101, 150, 199} {
		d := newDisk(t, 1+200+250)
		lay(t, d, 0, super(0, 130))
		l := writes(7, upTo(n)...)
		slices.Reverse(l)
		layRound(t, d, 200, 130, change(1, l...)...)
		j := open(t, d, 200, 250)
		wantState(t, j, 1, n+1, api.OK)
		wantBlocks(t, j, blocksOf(250, l))
	}
	d := newDisk(t, 1+200+250)
	l := change(1, writes(7, upTo(200)...)...)
	layRound(t, d, 200, 0, l[:200]...) // a change that is larger than the log has no room for its end
	wantState(t, open(t, d, 200, 250), 0, 0, api.OK)
}

func TestReplayBlocksInOrder(t *testing.T) {
	d := newDisk(t, 30)
	l := []journal.Write{{At: 4, Body: body(1, 10)}, {At: 2, Body: body(2, 96)}, {At: 4, Body: body(3, 5)}, {At: 0}, {At: 2, Body: nil}}
	lay(t, d, 1+8+0, home(0, 0, body(9, 9)))
	lay(t, d, 1, change(1, l...)...)
	j := open(t, d, 8, 6)
	wantState(t, j, 1, 6, api.OK)
	want := blocksOf(6)
	want[4] = body(3, 5)
	wantBlocks(t, j, want)
}

func TestReplayRefusesOtherFrames(t *testing.T) {
	const log, blocks = 8, 6
	spoilt := map[string]func(l []sector.Frame) []sector.Frame{
		"no end":                  func(l []sector.Frame) []sector.Frame { return l[:3] },
		"another Seq first":       func(l []sector.Frame) []sector.Frame { l[0].Seq++; return l },
		"another Seq":             func(l []sector.Frame) []sector.Frame { l[1].Seq--; return l },
		"another Seq last":        func(l []sector.Frame) []sector.Frame { l[3].Seq++; return l },
		"a Seq of more than 32":   func(l []sector.Frame) []sector.Frame { l[2].Seq += 1 << 32; return l },
		"another Index first":     func(l []sector.Frame) []sector.Frame { l[0].Index = 1; return l },
		"another Index":           func(l []sector.Frame) []sector.Frame { l[1].Index = 2; return l },
		"another Index last":      func(l []sector.Frame) []sector.Frame { l[3].Index = 0; return l },
		"another order":           func(l []sector.Frame) []sector.Frame { l[0], l[1] = l[1], l[0]; return l },
		"a greater Count first":   func(l []sector.Frame) []sector.Frame { l[0].Count = 4; return l },
		"a lower Count first":     func(l []sector.Frame) []sector.Frame { l[0].Count = 2; return l },
		"no Count first":          func(l []sector.Frame) []sector.Frame { l[0].Count = 0; return l },
		"another Count":           func(l []sector.Frame) []sector.Frame { l[2].Count = 255; return l },
		"another Count last":      func(l []sector.Frame) []sector.Frame { l[3].Count = 0; return l },
		"an At that is no block":  func(l []sector.Frame) []sector.Frame { l[0].At = blocks; return l },
		"the greatest At":         func(l []sector.Frame) []sector.Frame { l[2].At = math.MaxUint32; return l },
		"an At of more than 16":   func(l []sector.Frame) []sector.Frame { l[1].At += 1 << 16; return l },
		"97 bytes":                func(l []sector.Frame) []sector.Frame { l[1].Body = body(1, 97); return l },
		"108 bytes":               func(l []sector.Frame) []sector.Frame { l[0].Body = body(1, 108); return l },
		"an At of the end":        func(l []sector.Frame) []sector.Frame { l[3].At = 1; return l },
		"a Body of the end":       func(l []sector.Frame) []sector.Frame { l[3].Body = []byte{0}; return l },
		"a Home for Data":         func(l []sector.Frame) []sector.Frame { l[1].Kind = sector.Home; return l },
		"a Commit for Data":       func(l []sector.Frame) []sector.Frame { l[0].Kind = sector.Commit; return l },
		"a Super for Data":        func(l []sector.Frame) []sector.Frame { l[2].Kind = sector.Super; return l },
		"Data for the end":        func(l []sector.Frame) []sector.Frame { l[3].Kind = sector.Data; return l },
		"a Home for the end":      func(l []sector.Frame) []sector.Frame { l[3].Kind = sector.Home; return l },
		"a Super for the end":     func(l []sector.Frame) []sector.Frame { l[3].Kind = sector.Super; return l },
		"an end of nothing":       func(l []sector.Frame) []sector.Frame { return change(6) },
		"no frame but the end":    func(l []sector.Frame) []sector.Frame { return l[3:] },
		"an end that comes early": func(l []sector.Frame) []sector.Frame { return append(l[:2], l[3]) },
		"an end instead of a block": func(l []sector.Frame) []sector.Frame {
			l[1] = sector.Frame{Kind: sector.Commit, Index: 1, Count: 3, Seq: 6}
			return l
		},
		"an end that comes late":   func(l []sector.Frame) []sector.Frame { return append(l[:3], l[2], l[3]) },
		"a repeated first frame":   func(l []sector.Frame) []sector.Frame { return append(l[:1:1], l...) },
		"nothing":                  func(l []sector.Frame) []sector.Frame { return nil },
		"the change that was last": func(l []sector.Frame) []sector.Frame { return change(5, writes(8, 1)...) },
	}
	before := writes(1, 2, 5)
	for what, f := range spoilt {
		d := newDisk(t, 1+log+blocks)
		lay(t, d, 0, super(4, 3))
		layRound(t, d, log, 3, append(change(5, before...), f(change(6, writes(2, 1, 2, 4)...))...)...)
		j := open(t, d, log, blocks)
		if j.Seq() != 5 || j.Used() != 3 || !sameBlocks(j.All(), blocksOf(blocks, before)) {
			t.Errorf("with %s: Seq, Used = %d, %d, blocks %v", what, j.Seq(), j.Used(), j.All())
		}
	}
}

func TestReplayRefusesSpoiledSectors(t *testing.T) {
	const log, blocks = 8, 6
	before, after := writes(1, 2, 5), writes(2, 1, 2, 4)
	for i := range 5 {
		d := newDisk(t, 1+log+blocks)
		lay(t, d, 1, append(change(1, before...), change(2, after...)...)...)
		seq, used, want := uint64(2), 7, blocksOf(blocks, before, after)
		if i < 4 {
			spoil(t, d, 1+3+i)
			seq, used, want = 1, 3, blocksOf(blocks, before)
		}
		j := open(t, d, log, blocks)
		wantState(t, j, seq, used, api.OK)
		wantBlocks(t, j, want)
	}
}

// replayed prepares a disk with two changes in its log, which overlap.
func replayed(t *testing.T) (*disk.Disk, []journal.Write, []journal.Write) {
	first, second := writes(1, 1, 4, 5), writes(2, 0, 4)
	d := newDisk(t, 1+8+6)
	lay(t, d, 0, super(9, 6))
	layRound(t, d, 8, 6, append(change(10, first...), change(11, second...)...)...)
	return d, first, second
}

func TestOpenWritesHomeSectors(t *testing.T) {
	d, first, second := replayed(t)
	want := blocksOf(6, first, second)
	prepare := func() (*disk.Disk, func()) {
		d, _, _ := replayed(t)
		return d, func() { open(t, d, 8, 6) }
	}
	wantSteps(t, prepare,
		written(9+0, home(11, 0, want[0])),
		written(9+1, home(11, 1, want[1])),
		written(9+4, home(11, 4, want[4])),
		written(9+5, home(11, 5, want[5])))
	wantBlocks(t, open(t, d, 8, 6), want)
}

func TestOpenWritesBlocksThatAreAsBefore(t *testing.T) {
	l := writes(1, 3)
	prepare := func() (*disk.Disk, func()) {
		d := newDisk(t, 1+8+6)
		lay(t, d, 1+8+3, home(77, 3, l[0].Body))
		lay(t, d, 1, change(1, l...)...)
		return d, func() { open(t, d, 8, 6) }
	}
	wantSteps(t, prepare, written(9+3, home(1, 3, l[0].Body)))
}

func TestOpenRetainsAnError(t *testing.T) {
	for after := range 4 {
		d, first, second := replayed(t)
		d.Stop(after)
		j := open(t, d, 8, 6)
		wantState(t, j, 11, 7, api.ErrDown)
		wantBlocks(t, j, blocksOf(6, first, second))
		wantErr(t, "Commit", j.Commit(writes(1, 0)), api.ErrDown)
		wantErr(t, "Checkpoint", j.Checkpoint(), api.ErrDown)
		d.Crash([]byte{255})
		wantErr(t, "Commit after the crash", j.Commit(writes(1, 0)), api.ErrDown)
		wantErr(t, "Checkpoint after the crash", j.Checkpoint(), api.ErrDown)
		wantState(t, j, 11, 7, api.ErrDown)
		j = open(t, d, 8, 6)
		wantState(t, j, 11, 7, api.OK)
		wantBlocks(t, j, blocksOf(6, first, second))
	}
}

// P5.2

func TestCommitRefusals(t *testing.T) {
	great := []journal.Write{{At: 1, Body: make([]byte, 97)}}
	late := append(writes(1, 0, 1), journal.Write{At: 2, Body: make([]byte, 97)})
	cases := []struct {
		what string
		l    []journal.Write
		want api.Errno
	}{
		{"nil", nil, api.ErrArg},
		{"nothing", []journal.Write{}, api.ErrArg},
		{"101 writes", writes(1, upTo(101)...), api.ErrArg},
		{"8 writes", writes(1, upTo(8)...), api.ErrFull},
		{"100 writes", writes(1, upTo(100)...), api.ErrFull},
		{"the same twice", writes(1, 2, 2), api.ErrArg},
		{"the same twice at 0", writes(1, 0, 0), api.ErrArg},
		{"decreasing", writes(1, 0, 2, 1), api.ErrArg},
		{"below 0", writes(1, -1), api.ErrArg},
		{"below 0 by far", writes(1, math.MinInt, 0), api.ErrArg},
		{"no block", writes(1, 120), api.ErrArg},
		{"no block last", writes(1, 3, 120), api.ErrArg},
		{"no block by far", writes(1, 3, math.MaxInt), api.ErrArg},
		{"a number of more than 32 bits", writes(1, 1<<32), api.ErrArg},
		{"97 bytes", great, api.ErrArg},
		{"97 bytes last", late, api.ErrArg},
		{"too many, of which one is wrong", append(writes(1, upTo(100)...)[:99], journal.Write{At: 120}), api.ErrArg},
	}
	for _, c := range cases {
		d := newDisk(t, 1+8+120)
		j := open(t, d, 8, 120)
		l := writes(3, 0, 119)
		commit(t, j, l)
		waits := d.Waits()
		d.Stop(0)
		if got := j.Commit(c.l); got != c.want {
			t.Errorf("Commit of %s returned %d, want %d", c.what, got, c.want)
		}
		if d.Down() || d.Waits() != waits {
			t.Errorf("Commit of %s used the disk", c.what)
		}
		wantState(t, j, 1, 3, api.OK)
		wantBlocks(t, j, blocksOf(120, l))
		d.Flush()
		wantErr(t, "Commit on a disk that is down", j.Commit(writes(1, 0)), api.ErrDown)
		if got := j.Commit(c.l); got != api.ErrDown {
			t.Errorf("with a retained error, Commit of %s returned %d", c.what, got)
		}
		wantErr(t, "Commit of nil", (*journal.Journal)(nil).Commit(c.l), api.ErrArg)
	}
	wantErr(t, "Commit of nil", (*journal.Journal)(nil).Commit(writes(1, 0)), api.ErrArg)
}

func TestCommitLargest(t *testing.T) {
	for _, log := range []int{4, 5, 100, 101, 102, 200} {
		d := newDisk(t, 1+log+400)
		j := open(t, d, log, 400)
		n := min(log-1, 100)
		l := writes(5, upTo(400)[400-n:]...)
		commit(t, j, l)
		wantState(t, j, 1, n+1, api.OK)
		wantBlocks(t, j, blocksOf(400, l))
		want := api.ErrArg
		if n < 100 {
			want = api.ErrFull
		}
		wantErr(t, "Commit of one more", j.Commit(writes(6, upTo(n+1)...)), want)
		wantState(t, j, 1, n+1, api.OK)
		d.Crash(nil)
		j = open(t, d, log, 400)
		wantState(t, j, 1, n+1, api.OK)
		wantBlocks(t, j, blocksOf(400, l))
	}
}

// started prepares a journal with the given changes, and a log that continues at a position.
func started(t *testing.T, log, blocks, at int, changes ...[]journal.Write) (*disk.Disk, *journal.Journal) {
	t.Helper()
	d := newDisk(t, 1+log+blocks)
	lay(t, d, 0, super(20, at))
	j := open(t, d, log, blocks)
	for _, l := range changes {
		commit(t, j, l)
	}
	return d, j
}

func TestCommitSteps(t *testing.T) {
	const log, blocks = 6, 5
	l := []journal.Write{{At: 0, Body: body(1, 96)}, {At: 2}, {At: 4, Body: body(2, 1)}}
	frames := change(21, l...)
	for at := range log {
		prepare := func() (*disk.Disk, func()) {
			d, j := started(t, log, blocks, at)
			return d, func() { j.Commit(l) }
		}
		wantSteps(t, prepare,
			written(1+at, frames[0]),
			written(1+(at+1)%log, frames[1]),
			written(1+(at+2)%log, frames[2]),
			flushed(),
			written(1+(at+3)%log, frames[3]),
			flushed(),
			written(1+log+0, home(21, 0, l[0].Body)),
			written(1+log+2, home(21, 2, l[1].Body)),
			written(1+log+4, home(21, 4, l[2].Body)))
	}
}

func TestCommitStepsOfOneBlock(t *testing.T) {
	l := writes(1, 3)
	prepare := func() (*disk.Disk, func()) {
		d := newDisk(t, 1+4+4)
		j := open(t, d, 4, 4)
		return d, func() { j.Commit(l) }
	}
	frames := change(1, l...)
	wantSteps(t, prepare, written(1, frames[0]), flushed(), written(2, frames[1]), flushed(), written(1+4+3, home(1, 3, l[0].Body)))
}

func TestCommitStepsWithCheckpoint(t *testing.T) {
	const log, blocks = 6, 5
	before, l := writes(1, 1, 2), writes(2, 0, 1, 4)
	frames := change(22, l...)
	for at := range log {
		prepare := func() (*disk.Disk, func()) {
			d, j := started(t, log, blocks, at, before)
			return d, func() { j.Commit(l) }
		}
		wantSteps(t, prepare,
			flushed(),
			written(0, super(21, (at+3)%log)),
			flushed(),
			written(1+(at+3)%log, frames[0]),
			written(1+(at+4)%log, frames[1]),
			written(1+(at+5)%log, frames[2]),
			flushed(),
			written(1+(at+6)%log, frames[3]),
			flushed(),
			written(1+log+0, home(22, 0, l[0].Body)),
			written(1+log+1, home(22, 1, l[1].Body)),
			written(1+log+4, home(22, 4, l[2].Body)))
	}
}

func TestCommitNeedsNoCheckpointIfItFits(t *testing.T) {
	d, j := started(t, 6, 5, 4, writes(1, 1, 2), writes(2, 3, 4))
	wantState(t, j, 22, 6, api.OK)
	commit(t, j, writes(3, 0))
	wantState(t, j, 23, 2, api.OK)
	d.Crash(nil)
	j = open(t, d, 6, 5)
	wantState(t, j, 23, 2, api.OK)
	wantBlocks(t, j, blocksOf(5, writes(1, 1, 2), writes(2, 3, 4), writes(3, 0)))
}

func TestCommitErrors(t *testing.T) {
	const log, blocks = 6, 5
	before, l := writes(1, 1, 2), writes(2, 0, 1, 4)
	for after := range 13 {
		d, j := started(t, log, blocks, 5, before)
		d.Stop(after)
		got := j.Commit(l)
		switch {
		case after < 3: // in the checkpoint
			wantErr(t, "Commit", got, api.ErrDown)
			wantState(t, j, 21, 3, api.ErrDown)
		case after < 9: // in step 1
			wantErr(t, "Commit", got, api.ErrDown)
			wantState(t, j, 21, 0, api.ErrDown)
		case after < 12: // in step 3
			wantErr(t, "Commit", got, api.OK)
			wantState(t, j, 22, 4, api.ErrDown)
		default:
			wantErr(t, "Commit", got, api.OK)
			wantState(t, j, 22, 4, api.OK)
		}
		want := blocksOf(blocks, before)
		if after >= 9 {
			want = blocksOf(blocks, before, l)
		}
		wantBlocks(t, j, want)
		seq, used, e := j.Seq(), j.Used(), j.Err()
		d.Crash(nil)
		if e != api.OK {
			wantErr(t, "Commit after an error", j.Commit(l), e)
			wantErr(t, "Checkpoint after an error", j.Checkpoint(), e)
			wantState(t, j, seq, used, e)
			wantBlocks(t, j, want)
			if d.Waits() != 0 {
				t.Error("after an error the disk was written")
			}
		}
		j = open(t, d, log, blocks)
		if j.Seq() != seq {
			t.Errorf("stopped after %d calls: Seq is %d after the crash, and was %d", after, j.Seq(), seq)
		}
		wantBlocks(t, j, want)
	}
}

func TestCommitKeepsNothingOfItsArgument(t *testing.T) {
	d := newDisk(t, 30)
	j := open(t, d, 8, 6)
	l := writes(1, 2, 3)
	kept := writes(1, 2, 3)
	commit(t, j, l)
	for i, w := range l {
		if w.At != kept[i].At || !bytes.Equal(w.Body, kept[i].Body) {
			t.Error("the argument was changed")
		}
		clear(w.Body)
	}
	wantBlocks(t, j, blocksOf(6, kept))
	wantBlocks(t, open(t, d, 8, 6), blocksOf(6, kept))
}

func TestCommitGreatestSeq(t *testing.T) {
	d := newDisk(t, 30)
	lay(t, d, 0, super(math.MaxUint64-1, 0))
	j := open(t, d, 8, 6)
	commit(t, j, writes(1, 1))
	wantState(t, j, math.MaxUint64, 2, api.OK)
	d.Crash(nil)
	wantState(t, open(t, d, 8, 6), math.MaxUint64, 2, api.OK)
}

// P5.3

func TestCheckpointSteps(t *testing.T) {
	const log, blocks = 6, 5
	for at := range log {
		prepare := func() (*disk.Disk, func()) {
			d, j := started(t, log, blocks, at, writes(1, 1, 2), writes(2, 0))
			return d, func() { j.Checkpoint() }
		}
		wantSteps(t, prepare, flushed(), written(0, super(22, (at+5)%log)), flushed())
	}
}

func TestCheckpointWithoutChanges(t *testing.T) {
	d, j := started(t, 6, 5, 2)
	d.Stop(0)
	wantErr(t, "Checkpoint", j.Checkpoint(), api.OK)
	wantState(t, j, 20, 0, api.OK)
	d, j = started(t, 6, 5, 2, writes(1, 1))
	wantErr(t, "Checkpoint", j.Checkpoint(), api.OK)
	d.Stop(0)
	wantErr(t, "a second Checkpoint", j.Checkpoint(), api.OK)
	wantState(t, j, 21, 0, api.OK)
	if d.Down() {
		t.Error("the disk was used")
	}
	d.Flush()
	wantErr(t, "Checkpoint on a disk that is down", j.Checkpoint(), api.OK)
	wantErr(t, "Commit on a disk that is down", j.Commit(writes(1, 1)), api.ErrDown)
	wantErr(t, "Checkpoint with a retained error", j.Checkpoint(), api.ErrDown)
}

func TestCheckpointErrors(t *testing.T) {
	for after := range 4 {
		d, j := started(t, 6, 5, 3, writes(1, 1, 2))
		d.Stop(after)
		want, used := api.ErrDown, 3
		if after == 3 {
			want, used = api.OK, 0
		}
		wantErr(t, "Checkpoint", j.Checkpoint(), want)
		wantState(t, j, 21, used, want)
		wantBlocks(t, j, blocksOf(5, writes(1, 1, 2)))
		d.Crash([]byte{255})
		wantErr(t, "Checkpoint after the crash", j.Checkpoint(), want)
		wantState(t, j, 21, used, want)
		wantBlocks(t, open(t, d, 6, 5), blocksOf(5, writes(1, 1, 2)))
	}
}

func TestCheckpointAfterOpen(t *testing.T) {
	d, first, second := replayed(t)
	j := open(t, d, 8, 6)
	wantErr(t, "Checkpoint", j.Checkpoint(), api.OK)
	wantState(t, j, 11, 0, api.OK)
	d.Crash(nil)
	j = open(t, d, 8, 6)
	wantState(t, j, 11, 0, api.OK)
	wantBlocks(t, j, blocksOf(6, first, second))
}

func TestReadRange(t *testing.T) {
	d, j := started(t, 6, 5, 0, writes(1, 0, 4))
	for _, i := range []int{math.MinInt, -1, 5, 6, math.MaxInt} {
		if b := j.Read(i); len(b) != 0 {
			t.Errorf("Read(%d) = %v", i, b)
		}
	}
	wantBlocks(t, j, blocksOf(5, writes(1, 0, 4)))
	d.Stop(0)
	d.Flush()
	wantBlocks(t, j, blocksOf(5, writes(1, 0, 4)))
}

func TestReadAndAllAreNewMemory(t *testing.T) {
	d, j := started(t, 8, 5, 0, writes(1, 0, 4), writes(2, 1))
	want := blocksOf(5, writes(1, 0, 4), writes(2, 1))
	for _, j := range []*journal.Journal{j, open(t, d, 8, 5)} {
		for range 2 {
			all := j.All()
			for i, b := range all {
				read := j.Read(i)
				clear(b)
				_ = append(b, 9)
				if !bytes.Equal(read, want[i]) {
					t.Error("a change of one result changed another one")
				}
				clear(read)
				all[i] = []byte("other")
			}
			wantBlocks(t, j, want)
		}
	}
}

func TestNilJournal(t *testing.T) {
	var j *journal.Journal
	for _, i := range []int{-1, 0, 1} {
		if b := j.Read(i); len(b) != 0 {
			t.Errorf("Read(%d) = %v", i, b)
		}
	}
	if l := j.All(); len(l) != 0 {
		t.Errorf("All = %v", l)
	}
	wantState(t, j, 0, 0, api.ErrArg)
	wantErr(t, "Checkpoint", j.Checkpoint(), api.ErrArg)
}

func TestZeroJournalDoesNotPanic(t *testing.T) {
	j := new(journal.Journal)
	j.Commit(writes(1, 0))
	j.Checkpoint()
	j.Read(0)
	j.All()
}

// P5.4

// wantDurable opens a disk after a crash: it must have the changes that were committed, or these and the one that was not finished.
func wantDurable(t *testing.T, d *disk.Disk, log, blocks int, seq uint64, before, after [][]byte) *journal.Journal {
	t.Helper()
	j := open(t, d, log, blocks)
	switch {
	case j.Seq() == seq && sameBlocks(j.All(), before):
	case j.Seq() == seq+1 && sameBlocks(j.All(), after):
	default:
		t.Fatalf("after a crash Seq is %d, and was %d; the blocks are %v, and were %v", j.Seq(), seq, j.All(), before)
	}
	return j
}

func TestEveryCrashOfAChange(t *testing.T) {
	const log, blocks = 6, 5
	first, second, l := writes(1, 1, 2), writes(2, 2), writes(3, 0, 2, 4)
	before, after := blocksOf(blocks, first, second), blocksOf(blocks, first, second, l)
	for stop := range 14 {
		for pick := range 256 {
			d, j := started(t, log, blocks, 4, first, second)
			d.Stop(stop)
			if e := j.Commit(l); e == api.OK {
				d.Crash([]byte{byte(pick)})
				wantDurable(t, d, log, blocks, 23, after, nil)
			} else {
				d.Crash([]byte{byte(pick)})
				wantDurable(t, d, log, blocks, 22, before, after)
			}
		}
	}
}

func TestStartOfAChangeHasNoEffect(t *testing.T) {
	const log, blocks = 8, 6
	first, lost := writes(1, 1, 2), writes(2, 0, 2, 4)
	for stop := range 5 { // the call after these is the Flush behind the Commit frame
		d, j := started(t, log, blocks, 6, first)
		d.Stop(stop)
		wantErr(t, "Commit", j.Commit(lost), api.ErrDown)
		d.Crash([]byte{255})
		j = open(t, d, log, blocks)
		wantState(t, j, 21, 3, api.OK)
		wantBlocks(t, j, blocksOf(blocks, first))
		commit(t, j, writes(3, 5)) // over the start that was lost
		d.Crash(nil)
		j = open(t, d, log, blocks)
		wantState(t, j, 22, 5, api.OK)
		wantBlocks(t, j, blocksOf(blocks, first, writes(3, 5)))
	}
}

// someWrites returns a change that the log has room for, now and then with blocks that are empty.
func someWrites(seed *uint64, log, blocks int) []journal.Write {
	most := min(log-1, blocks, 100)
	n := int(noise(seed))%most + 1
	at := upTo(blocks)
	for i := range at {
		k := int(noise(seed)) % (i + 1)
		at[i], at[k] = at[k], at[i]
	}
	at = at[:n]
	slices.Sort(at)
	var l []journal.Write
	for _, i := range at {
		l = append(l, journal.Write{At: i, Body: body(byte(noise(seed)), int(noise(seed)%97))})
	}
	return l
}

func somePick(seed *uint64) []byte {
	pick := make([]byte, noise(seed)%60)
	for i := range pick {
		pick[i] = byte(noise(seed))
	}
	return pick
}

func TestManyCrashes(t *testing.T) {
	seed := uint64(6)
	for _, size := range []struct{ log, blocks int }{{4, 1}, {4, 5}, {5, 3}, {7, 9}, {20, 30}, {200, 400}} {
		d := newDisk(t, 1+size.log+size.blocks+int(noise(&seed)%3))
		j := open(t, d, size.log, size.blocks)
		state := j.All()
		crashes := 0
		for crashes < 150 {
			if noise(&seed)%4 == 0 {
				d.Stop(int(noise(&seed)) % (4*size.log + 4))
			}
			seq := j.Seq()
			l := someWrites(&seed, size.log, size.blocks)
			after := slices.Clone(state)
			for _, w := range l {
				after[w.At] = w.Body
			}
			e := j.Commit(l)
			if e == api.OK {
				seq, state, after = seq+1, after, nil
				wantBlocks(t, j, state)
			}
			if e == api.OK && noise(&seed)%8 == 0 {
				j.Checkpoint()
			}
			if j.Err() == api.OK && noise(&seed)%10 != 0 {
				continue
			}
			crashes++
			d.Crash(somePick(&seed))
			j = wantDurable(t, d, size.log, size.blocks, seq, state, after)
			for noise(&seed)%3 == 0 { // crashes while it is opened
				seq, state = j.Seq(), j.All()
				d.Crash(somePick(&seed))
				d.Stop(int(noise(&seed)) % 4)
				open(t, d, size.log, size.blocks)
				d.Crash(somePick(&seed))
				j = wantDurable(t, d, size.log, size.blocks, seq, state, nil)
			}
			state = j.All()
		}
	}
}
