package disk_test

import (
	"bytes"
	"math"
	"testing"

	"removalist/api"
	"removalist/disk"
)

// full returns a sector whose bytes depend on x and on their index, so that mixed contents are noticed.
func full(x byte) []byte {
	b := make([]byte, api.Sector)
	for i := range b {
		b[i] = x + byte(i)*3
	}
	return b
}

func zeros() []byte { return make([]byte, api.Sector) }

func newDisk(t *testing.T, n int) *disk.Disk {
	t.Helper()
	d, e := disk.New(n)
	if e != api.OK || d == nil {
		t.Fatalf("New(%d) returned %v, %d", n, d, e)
	}
	return d
}

func wantErr(t *testing.T, what string, got, want api.Errno) {
	t.Helper()
	if got != want {
		t.Errorf("%s returned %d, want %d", what, got, want)
	}
}

func wantRead(t *testing.T, d *disk.Disk, i int, want []byte) {
	t.Helper()
	got, e := d.Read(i)
	if e != api.OK || !bytes.Equal(got, want) {
		t.Errorf("Read(%d) = %v, %d, want %v", i, got, e, want)
	}
}

func wantRefused(t *testing.T, d *disk.Disk, i int, want api.Errno) {
	t.Helper()
	got, e := d.Read(i)
	if e != want || len(got) != 0 {
		t.Errorf("Read(%d) = %v, %d, want nothing, %d", i, got, e, want)
	}
}

func wantState(t *testing.T, d *disk.Disk, waits int, down bool) {
	t.Helper()
	if d.Waits() != waits || d.Down() != down {
		t.Errorf("Waits, Down = %d, %t, want %d, %t", d.Waits(), d.Down(), waits, down)
	}
}

func write(t *testing.T, d *disk.Disk, i int, x byte) {
	t.Helper()
	wantErr(t, "Write", d.Write(i, full(x)), api.OK)
}

func flush(t *testing.T, d *disk.Disk) {
	t.Helper()
	wantErr(t, "Flush", d.Flush(), api.OK)
}

func wantCrash(t *testing.T, d *disk.Disk, want int, pick ...byte) {
	t.Helper()
	if got := d.Crash(pick); got != want {
		t.Errorf("Crash(%v) = %d, want %d", pick, got, want)
	}
	wantState(t, d, 0, false)
}

// P3.1

func TestNewRange(t *testing.T) {
	for _, n := range []int{math.MinInt, -1, 0, 65537, math.MaxInt} {
		if d, e := disk.New(n); d != nil || e != api.ErrArg {
			t.Errorf("New(%d) = %v, %d", n, d, e)
		}
	}
	for _, n := range []int{1, 2, 3, 65535, 65536} {
		d := newDisk(t, n)
		if d.Len() != n {
			t.Errorf("Len = %d, want %d", d.Len(), n)
		}
		wantState(t, d, 0, false)
		wantRead(t, d, 0, zeros())
		wantRead(t, d, n-1, zeros())
		wantRefused(t, d, n, api.ErrRange)
	}
}

func TestNewSectorsAreDurable(t *testing.T) {
	d := newDisk(t, 5)
	wantCrash(t, d, 0, 255)
	for i := range 5 {
		wantRead(t, d, i, zeros())
	}
}

func TestNewDiskDoesNotStop(t *testing.T) {
	d := newDisk(t, 1)
	for range 500 {
		write(t, d, 0, 1)
		flush(t, d)
	}
}

func TestNilDisk(t *testing.T) {
	var d *disk.Disk
	if d.Len() != 0 {
		t.Error(d.Len())
	}
	for _, i := range []int{-1, 0, 1} {
		wantRefused(t, d, i, api.ErrArg)
		wantErr(t, "Write", d.Write(i, full(1)), api.ErrArg)
		wantErr(t, "Write of nothing", d.Write(i, nil), api.ErrArg)
	}
	wantErr(t, "Flush", d.Flush(), api.ErrArg)
	d.Stop(0)
	wantCrash(t, d, 0, 255)
	wantState(t, d, 0, false)
}

func TestSectorRange(t *testing.T) {
	d := newDisk(t, 3)
	for _, i := range []int{math.MinInt, -1, 3, 4, math.MaxInt} {
		wantRefused(t, d, i, api.ErrRange)
		wantErr(t, "Write", d.Write(i, full(1)), api.ErrRange)
		wantErr(t, "Write of nothing", d.Write(i, nil), api.ErrRange)
	}
	wantState(t, d, 0, false)
}

func TestDownBeforeOtherErrors(t *testing.T) {
	d := newDisk(t, 2)
	d.Stop(0)
	wantErr(t, "Flush at the stop", d.Flush(), api.ErrDown)
	for _, i := range []int{-1, 0, 1, 2} {
		wantRefused(t, d, i, api.ErrDown)
		wantErr(t, "Write", d.Write(i, full(1)), api.ErrDown)
		wantErr(t, "Write of nothing", d.Write(i, nil), api.ErrDown)
	}
	wantErr(t, "Flush", d.Flush(), api.ErrDown)
	if d.Len() != 2 {
		t.Error(d.Len())
	}
	wantState(t, d, 0, true)
}

func TestZeroDiskDoesNotPanic(t *testing.T) {
	d := new(disk.Disk)
	d.Write(0, full(1))
	d.Read(0)
	d.Flush()
	d.Crash([]byte{255})
	d.Write(0, full(1))
	d.Flush()
}

// P3.2

func TestWriteLength(t *testing.T) {
	d := newDisk(t, 2)
	for _, n := range []int{0, 1, 96, 127, 129, 256} {
		wantErr(t, "Write", d.Write(1, make([]byte, n)), api.ErrArg)
	}
	wantErr(t, "Write of nil", d.Write(1, nil), api.ErrArg)
	wantState(t, d, 0, false)
	wantRead(t, d, 1, zeros())
	wantErr(t, "Write of 128 bytes", d.Write(1, full(1)), api.OK)
	wantState(t, d, 1, false)
}

func TestReadLastPending(t *testing.T) {
	d := newDisk(t, 3)
	write(t, d, 0, 1)
	wantRead(t, d, 0, full(1))
	wantRead(t, d, 1, zeros())
	write(t, d, 1, 2)
	write(t, d, 0, 3)
	write(t, d, 1, 4)
	wantRead(t, d, 0, full(3))
	wantRead(t, d, 1, full(4))
	wantRead(t, d, 2, zeros())
	wantState(t, d, 4, false)
	flush(t, d)
	wantState(t, d, 0, false)
	wantRead(t, d, 0, full(3))
	wantRead(t, d, 1, full(4))
	write(t, d, 0, 5)
	wantRead(t, d, 0, full(5))
	wantRead(t, d, 1, full(4))
}

func TestPendingZerosHideTheDurableSector(t *testing.T) {
	d := newDisk(t, 1)
	write(t, d, 0, 1)
	flush(t, d)
	wantErr(t, "Write", d.Write(0, zeros()), api.OK)
	wantRead(t, d, 0, zeros())
	flush(t, d)
	wantCrash(t, d, 0)
	wantRead(t, d, 0, zeros())
}

func TestFlushIsDurable(t *testing.T) {
	d := newDisk(t, 3)
	write(t, d, 2, 1)
	write(t, d, 0, 2)
	write(t, d, 2, 3)
	flush(t, d)
	wantCrash(t, d, 0, 255)
	wantRead(t, d, 0, full(2))
	wantRead(t, d, 1, zeros())
	wantRead(t, d, 2, full(3))
	flush(t, d)
	wantState(t, d, 0, false)
}

func TestReadIsNewMemory(t *testing.T) {
	d := newDisk(t, 2)
	write(t, d, 0, 1)
	flush(t, d)
	write(t, d, 1, 2)
	for i := range 2 {
		first, _ := d.Read(i)
		second, _ := d.Read(i)
		for k := range first {
			first[k] ^= 255
		}
		_ = append(first, 9)
		if !bytes.Equal(second, full(byte(i+1))) {
			t.Errorf("sector %d: a change of one result changed another one", i)
		}
		wantRead(t, d, i, full(byte(i+1)))
	}
	flush(t, d)
	before, _ := d.Read(1)
	write(t, d, 1, 7)
	flush(t, d)
	if !bytes.Equal(before, full(2)) {
		t.Error("a later write changed a result")
	}
}

func TestWriteDoesNotRetain(t *testing.T) {
	d := newDisk(t, 1)
	b := full(1)
	wantErr(t, "Write", d.Write(0, b), api.OK)
	if !bytes.Equal(b, full(1)) {
		t.Error("the argument was changed")
	}
	clear(b)
	wantRead(t, d, 0, full(1))
	flush(t, d)
	wantRead(t, d, 0, full(1))
}

func TestDisksAreSeparate(t *testing.T) {
	a, b := newDisk(t, 1), newDisk(t, 1)
	write(t, a, 0, 1)
	flush(t, a)
	a.Stop(0)
	wantErr(t, "Flush at the stop", a.Flush(), api.ErrDown)
	wantState(t, b, 0, false)
	wantRead(t, b, 0, zeros())
	flush(t, b)
}

func TestNothingIsDoneAtTheStop(t *testing.T) {
	d := newDisk(t, 2)
	write(t, d, 0, 1)
	d.Stop(0)
	wantErr(t, "Flush at the stop", d.Flush(), api.ErrDown)
	wantState(t, d, 1, true)
	wantCrash(t, d, 0)
	wantRead(t, d, 0, zeros())

	write(t, d, 0, 2)
	d.Stop(0)
	wantErr(t, "Write at the stop", d.Write(1, full(3)), api.ErrDown)
	wantState(t, d, 1, true)
	wantCrash(t, d, 1, 255)
	wantRead(t, d, 0, full(2))
	wantRead(t, d, 1, zeros())
}

// P3.3

func TestStopAfter(t *testing.T) {
	for after := range 12 {
		d := newDisk(t, 2)
		d.Stop(after)
		for k := range after {
			if k%3 == 2 {
				flush(t, d)
			} else {
				write(t, d, k%2, byte(k))
			}
		}
		waits := d.Waits()
		wantState(t, d, waits, false)
		wantErr(t, "Write at the stop", d.Write(0, full(1)), api.ErrDown)
		wantState(t, d, waits, true)
	}
}

func TestStopNever(t *testing.T) {
	for _, after := range []int{-1, -2, math.MinInt, math.MaxInt} {
		d := newDisk(t, 1)
		d.Stop(0)
		d.Stop(after)
		for range 100 {
			write(t, d, 0, 1)
			flush(t, d)
		}
		wantState(t, d, 0, false)
	}
}

func TestLastStopCounts(t *testing.T) {
	d := newDisk(t, 1)
	d.Stop(1)
	write(t, d, 0, 1)
	d.Stop(2)
	write(t, d, 0, 2)
	flush(t, d)
	wantErr(t, "Flush at the stop", d.Flush(), api.ErrDown)
	wantCrash(t, d, 0)
	d.Stop(5)
	d.Stop(0)
	wantErr(t, "Write at the stop", d.Write(0, full(1)), api.ErrDown)
}

func TestOnlyCountedCallsCount(t *testing.T) {
	d := newDisk(t, 2)
	d.Stop(1)
	for range 5 {
		wantErr(t, "Write beyond", d.Write(2, full(1)), api.ErrRange)
		wantErr(t, "Write before", d.Write(-1, full(1)), api.ErrRange)
		wantErr(t, "Write of nothing", d.Write(0, nil), api.ErrArg)
		wantRead(t, d, 0, zeros())
		wantRefused(t, d, 2, api.ErrRange)
		d.Len()
		wantState(t, d, 0, false)
	}
	write(t, d, 0, 1)
	wantErr(t, "Write beyond", d.Write(2, full(1)), api.ErrRange)
	wantErr(t, "Write of nothing", d.Write(0, nil), api.ErrArg)
	wantState(t, d, 1, false)
	wantErr(t, "Flush at the stop", d.Flush(), api.ErrDown)
}

func TestStopDoesNotStart(t *testing.T) {
	for _, after := range []int{-1, 0, 3} {
		d := newDisk(t, 1)
		d.Stop(0)
		wantErr(t, "Flush at the stop", d.Flush(), api.ErrDown)
		d.Stop(after)
		wantState(t, d, 0, true)
		wantErr(t, "Flush", d.Flush(), api.ErrDown)
	}
}

func TestCrashStartsAgain(t *testing.T) {
	d := newDisk(t, 1)
	for _, stopped := range []bool{true, false} {
		d.Stop(0)
		if stopped {
			wantErr(t, "Flush at the stop", d.Flush(), api.ErrDown)
			d.Stop(2)
		}
		wantCrash(t, d, 0)
		for range 20 {
			write(t, d, 0, 1)
			flush(t, d)
		}
	}
}

func TestCrashExample(t *testing.T) {
	d := newDisk(t, 2)
	write(t, d, 0, 1)
	write(t, d, 1, 2)
	wantCrash(t, d, 1, 2)
	wantRead(t, d, 0, zeros())
	wantRead(t, d, 1, full(2))
}

func TestCrashPickLengths(t *testing.T) {
	cases := []struct {
		pick []byte
		want int
	}{
		{nil, 0},
		{[]byte{}, 0},
		{[]byte{0, 0, 0}, 0},
		{[]byte{255}, 8},
		{[]byte{255, 255}, 16},
		{[]byte{255, 255, 255}, 18},
		{[]byte{255, 255, 255, 255, 255}, 18},
		{[]byte{0, 0, 252, 255}, 0},
		{[]byte{128, 1, 2}, 3},
	}
	for _, c := range cases {
		d := newDisk(t, 18)
		for i := range 18 {
			write(t, d, i, byte(i+1))
		}
		kept := bytes.Clone(c.pick)
		wantCrash(t, d, c.want, c.pick...)
		if !bytes.Equal(kept, c.pick) {
			t.Errorf("the argument became %v, was %v", c.pick, kept)
		}
		for i := range 18 {
			if i/8 < len(c.pick) && c.pick[i/8]>>(i%8)%2 == 1 {
				wantRead(t, d, i, full(byte(i+1)))
			} else {
				wantRead(t, d, i, zeros())
			}
		}
	}
}

func TestCrashPerformsInOrder(t *testing.T) {
	want := [][]byte{zeros(), full(1), full(2), full(2), full(3), full(3), full(3), full(3)}
	count := []int{0, 1, 1, 2, 1, 2, 2, 3}
	for pick := range 8 {
		d := newDisk(t, 1)
		for x := range 3 {
			write(t, d, 0, byte(x+1))
		}
		wantCrash(t, d, count[pick], byte(pick))
		wantRead(t, d, 0, want[pick])
	}
}

func TestCrashIsDurable(t *testing.T) {
	d := newDisk(t, 2)
	write(t, d, 0, 1)
	write(t, d, 1, 2)
	wantCrash(t, d, 1, 1)
	wantCrash(t, d, 0, 255)
	wantRead(t, d, 0, full(1))
	wantRead(t, d, 1, zeros())
	flush(t, d)
	wantRead(t, d, 1, zeros())
}

// P3.4

// noise is the next of a fixed sequence of numbers without a visible pattern.
func noise(x *uint64) int {
	*x = *x*6364136223846793005 + 1442695040888963407
	return int(*x >> 40)
}

// wantOneOf requires that sector i has one of the contents that a crash may leave.
func wantOneOf(t *testing.T, d *disk.Disk, i int, may [][]byte) {
	t.Helper()
	got, e := d.Read(i)
	if e != api.OK {
		t.Fatalf("Read(%d) returned %d", i, e)
	}
	for _, b := range may {
		if bytes.Equal(got, b) {
			return
		}
	}
	t.Errorf("sector %d has a content that was not written to it", i)
}

func TestCrashPreservesWhatWasFlushed(t *testing.T) {
	const size = 6
	seed := uint64(1)
	for range 300 {
		d := newDisk(t, size)
		durable := [size][]byte{}
		pending := [size][][]byte{}
		for i := range size {
			durable[i] = zeros()
		}
		d.Stop(noise(&seed) % 40)
		for !d.Down() {
			if noise(&seed)%6 == 0 {
				if d.Flush() != api.OK {
					continue
				}
				for i, l := range pending {
					if len(l) > 0 {
						durable[i] = l[len(l)-1]
					}
					pending[i] = nil
				}
				continue
			}
			i, b := noise(&seed)%size, full(byte(noise(&seed)))
			if d.Write(i, b) == api.OK {
				pending[i] = append(pending[i], b)
			}
		}
		d.Crash([]byte{byte(noise(&seed)), byte(noise(&seed)), byte(noise(&seed))})
		for i := range size {
			wantOneOf(t, d, i, append(pending[i], durable[i]))
		}
	}
}
