package ops_test

import (
	"bytes"
	"fmt"
	"math"
	"slices"
	"strings"
	"testing"

	"removalist/api"
	"removalist/call"
	"removalist/dir"
	"removalist/ops"
	"removalist/slot"
)

// Handles of the sample.
var (
	root  = api.Handle{Ino: 0, Gen: 1}
	d     = api.Handle{Ino: 1, Gen: 3}
	f     = api.Handle{Ino: 2, Gen: 5}
	s     = api.Handle{Ino: 3, Gen: 1}
	e     = api.Handle{Ino: 4, Gen: 2}
	gone  = api.Handle{Ino: 5, Gen: 8} // the slot is free
	sub   = api.Handle{Ino: 6, Gen: 1}
	deep  = api.Handle{Ino: 7, Gen: 1}
	blank = api.Handle{Ino: 8, Gen: 1}
	older = api.Handle{Ino: 2, Gen: 4} // the slot is another thing's
	none  = api.Handle{Ino: 24, Gen: 1}
)

// patterned returns n bytes, no two neighbours of which are equal.
func patterned(n int) []byte {
	var b []byte
	for i := range n {
		b = append(b, byte(i*7+1))
	}
	return b
}

func entry(cookie uint64, h api.Handle, name string) dir.Entry {
	return dir.Entry{Cookie: cookie, Handle: h, Name: name}
}

// directory returns one with Links 1.
func directory(h api.Handle, change, cookie uint64, l ...dir.Entry) slot.Slot {
	return slot.Slot{Ino: h.Ino, Kind: api.Dir, Gen: h.Gen, Links: 1, Mode: 0o700, Change: change, Cookie: cookie, Data: entryBytes(l...)}
}

// sample returns things of every kind: the root has d, f, s, e, gone (which is stale) and blank; d has sub and g, which is f; sub has deep.
func sample() ops.Things {
	t := ops.Things{Change: 40, Room: 20}
	for ino := range uint32(24) {
		t.Slots = append(t.Slots, slot.Slot{Ino: ino})
	}
	t.Slots[0] = directory(root, 1, 11, entry(2, d, "d"), entry(3, f, "f"), entry(4, s, "s"), entry(6, e, "e"), entry(7, gone, "gone"), entry(9, blank, "blank"))
	t.Slots[1] = directory(d, 2, 5, entry(1, sub, "sub"), entry(5, f, "g"))
	t.Slots[2] = slot.Slot{Ino: 2, Kind: api.File, Gen: 5, Links: 2, Mode: 0o644, Change: 3, Verf: 77, Data: patterned(100)}
	t.Slots[3] = slot.Slot{Ino: 3, Kind: api.Link, Gen: 1, Links: 1, Mode: 0o777, Change: 4, Data: []byte("d/f")}
	t.Slots[4] = directory(e, 5, 3)
	t.Slots[5] = slot.Slot{Ino: 5, Gen: 9, Change: 6}
	t.Slots[6] = directory(sub, 7, 1, entry(1, deep, "deep"))
	t.Slots[7] = directory(deep, 8, 0)
	t.Slots[8] = slot.Slot{Ino: 8, Kind: api.File, Gen: 1, Links: 1, Change: 9}
	return t
}

// usedBySample: root 2, d 1, f 2, s 1, sub 1.
const usedBySample = 7

func copyOf(t ops.Things) ops.Things {
	t.Slots = slices.Clone(t.Slots)
	for i := range t.Slots {
		t.Slots[i].Data = slices.Clone(t.Slots[i].Data)
	}
	return t
}

// with returns v with some slots changed.
func with(v ops.Things, change func(l []slot.Slot)) ops.Things {
	v = copyOf(v)
	change(v.Slots)
	return v
}

// committed returns v with the effect of a committed change, in which the slots touched are changed by change.
func committed(v ops.Things, change func(l []slot.Slot), touched ...api.Handle) ops.Things {
	v = with(v, change)
	v.Change++
	for _, h := range touched {
		v.Slots[h.Ino].Change = v.Change
	}
	return v
}

// reported returns the reply that reports the thing of a handle.
func reported(v ops.Things, h api.Handle) call.Reply {
	x := v.Slots[h.Ino]
	return call.Reply{
		At:   api.Handle{Ino: x.Ino, Gen: x.Gen},
		Attr: call.Attr{Kind: x.Kind, Mode: x.Mode, Links: x.Links, Size: uint32(len(x.Data)), Change: x.Change},
	}
}

func sameThings(a, b ops.Things) bool {
	return a.Change == b.Change && a.Room == b.Room && slices.EqualFunc(a.Slots, b.Slots, slot.Same)
}

func sameReply(a, b call.Reply) bool {
	return a.Client == b.Client && a.Xid == b.Xid && a.Status == b.Status && a.At == b.At && a.Attr == b.Attr &&
		bytes.Equal(a.Data, b.Data) && slices.Equal(a.Entries, b.Entries) && a.Eof == b.Eof && a.Verf == b.Verf && a.Free == b.Free
}

func sameCall(a, b call.Call) bool {
	same := bytes.Equal(a.Data, b.Data)
	a.Data, b.Data = nil, nil
	return same && fmt.Sprint(a) == fmt.Sprint(b)
}

// want runs a call, and asks for exactly this reply and these things after it; Client and Xid are set here.
func want(t *testing.T, v ops.Things, c call.Call, r call.Reply, after ops.Things) {
	t.Helper()
	c.Client, c.Xid = 6, 1<<31+5
	r.Client, r.Xid = c.Client, c.Xid
	before, asked := copyOf(v), c
	asked.Data = slices.Clone(c.Data)
	got, gotReply := ops.Do(v, c)
	if !sameReply(gotReply, r) {
		t.Errorf("%+v: reply\n%+v, want\n%+v", c, gotReply, r)
	}
	if !sameThings(got, after) {
		t.Errorf("%+v: things\n%+v, want\n%+v", c, got, after)
	}
	if !sameThings(v, before) || !sameCall(c, asked) {
		t.Errorf("%+v: an argument was changed", c)
	}
}

// wantError asks for an error, and nothing else.
func wantError(t *testing.T, v ops.Things, c call.Call, status api.Errno) {
	t.Helper()
	want(t, v, c, call.Reply{Status: status}, v)
}

// wantAsked asks for a reply by which nothing changes.
func wantAsked(t *testing.T, v ops.Things, c call.Call, r call.Reply) {
	t.Helper()
	want(t, v, c, r, v)
}

// names that are not valid.
func badNames() []string {
	return []string{"", ".", "..", "a/b", "/", "a\x00", strings.Repeat("n", 25)}
}

// P13.1

func TestFormat(t *testing.T) {
	for _, room := range []int{-5, 0, 1, 768, math.MaxInt, math.MinInt} {
		v := ops.Format(room)
		if len(v.Slots) != 24 || v.Change != 1 || v.Room != room {
			t.Fatal(v)
		}
		for i, x := range v.Slots {
			want := slot.Slot{Ino: uint32(i)}
			if i == 0 {
				want = slot.Slot{Kind: 2, Gen: 1, Links: 1, Mode: 493, Change: 1}
			}
			if !slot.Same(x, want) {
				t.Error(i, x, want)
			}
		}
	}
	a, b := ops.Format(3), ops.Format(3)
	a.Slots[0].Gen = 9
	if b.Slots[0].Gen != 1 || ops.Format(3).Slots[0].Gen != 1 {
		t.Error("two volumes share slots")
	}
}

func TestUsed(t *testing.T) {
	sized := func(l ...int) ops.Things {
		var v ops.Things
		for _, n := range l {
			v.Slots = append(v.Slots, slot.Slot{Data: make([]byte, n)})
		}
		return v
	}
	for _, x := range []struct {
		v    ops.Things
		want int
	}{
		{ops.Things{}, 0}, {ops.Format(7), 0}, {sample(), usedBySample},
		{sized(0), 0}, {sized(1), 1}, {sized(96), 1}, {sized(97), 2}, {sized(192), 2}, {sized(193), 3}, {sized(768), 8},
		{sized(1, 1, 1), 3}, {sized(96, 97, 0, 768, 1), 12},
		{sized(make([]int, 40)...), 0}, {sized(7000), 73}, // also of what no volume has
	} {
		if n := ops.Used(x.v); n != x.want {
			t.Error(n, x.want)
		}
	}
}

func TestThingsThatAreNotValid(t *testing.T) {
	cases := map[string]func(v *ops.Things){
		"no slots":       func(v *ops.Things) { v.Slots = nil },
		"23 slots":       func(v *ops.Things) { v.Slots = v.Slots[:23] },
		"25 slots":       func(v *ops.Things) { v.Slots = append(v.Slots, slot.Slot{Ino: 24}) },
		"25, one twice":  func(v *ops.Things) { v.Slots = append(v.Slots, slot.Slot{Ino: 23}) },
		"another Ino":    func(v *ops.Things) { v.Slots[23].Ino = 22 },
		"two exchanged":  func(v *ops.Things) { v.Slots[9], v.Slots[10] = v.Slots[10], v.Slots[9] },
		"an Ino of 24":   func(v *ops.Things) { v.Slots[23].Ino = 24 },
		"a kind of 4":    func(v *ops.Things) { v.Slots[8].Kind = 4 },
		"no links":       func(v *ops.Things) { v.Slots[8].Links = 0 },
		"too much data":  func(v *ops.Things) { v.Slots[8].Data = make([]byte, 769) },
		"a free one's":   func(v *ops.Things) { v.Slots[5].Mode = 1 },
		"entries":        func(v *ops.Things) { v.Slots[4].Data = []byte{1} },
		"a low cookie":   func(v *ops.Things) { v.Slots[0].Cookie = 8 },
		"the last one's": func(v *ops.Things) { v.Slots[23].Links = 1 },
	}
	for name, damage := range cases {
		for op := range uint32(18) {
			v := copyOf(sample())
			damage(&v)
			c := call.Call{Client: 3, Xid: 4, Op: op, At: root, Name: "d", To: root, ToName: "new", Count: 1}
			before := copyOf(v)
			after, r := ops.Do(v, c)
			if !sameReply(r, call.Reply{Client: 3, Xid: 4, Status: api.ErrInval}) || !sameThings(after, before) || !sameThings(v, before) {
				t.Error(name, op, r)
			}
		}
	}
	// What is odd, but valid.
	v := with(sample(), func(l []slot.Slot) {
		l[0].Cookie = 9
		l[5].Change = 1 << 63
		l[8].Data = make([]byte, 768)
		l[8].Links = math.MaxUint32
	})
	v.Change = 0
	wantAsked(t, v, call.Call{Op: call.Getattr, At: d}, reported(v, d))
}

func TestOpsThatDoNotExist(t *testing.T) {
	for _, op := range []uint32{0, 17, 18, 32, 256 + 2, 1<<16 + 2, 1 << 31, math.MaxUint32} {
		wantError(t, sample(), call.Call{Op: op, At: root, Name: "d"}, api.ErrInval)
		wantError(t, sample(), call.Call{Op: op, At: older}, api.ErrInval)
	}
}

func TestFailureLeavesAFailureAlone(t *testing.T) {
	// The steps ahead of an error leave nothing, in the things as in the reply.
	full := with(sample(), func(l []slot.Slot) {
		l[4].Cookie = math.MaxUint64
		for i := range l {
			if l[i].Kind == api.Free {
				l[i] = slot.Slot{Ino: uint32(i), Kind: api.File, Links: 1}
			}
		}
		l[23] = slot.Slot{Ino: 23, Gen: 4}
	})
	wantError(t, full, call.Call{Op: call.Create, At: e, Name: "x"}, api.ErrCookie)
	wantError(t, full, call.Call{Op: call.Link, At: f, To: e, ToName: "x"}, api.ErrCookie)
	wantError(t, full, call.Call{Op: call.Rename, At: root, Name: "blank", To: e, ToName: "x"}, api.ErrCookie)
	tight := sample()
	tight.Room = usedBySample
	wantError(t, tight, call.Call{Op: call.Write, At: blank, Data: []byte{1}}, api.ErrNoSpc)
	wantError(t, tight, call.Call{Op: call.Setattr, At: blank, Offset: 1, Count: 1}, api.ErrNoSpc)
	wantError(t, tight, call.Call{Op: call.Mkdir, At: e, Name: "x"}, api.ErrNoSpc)
}

// scribbled runs a call, writes over all of its results or of its arguments, and asks whether the other ones are as they were.
func scribbled(t *testing.T, v ops.Things, c call.Call) {
	t.Helper()
	scribble := func(v ops.Things) {
		for i := range v.Slots {
			for k := range v.Slots[i].Data {
				v.Slots[i].Data[k] ^= 0xff
			}
			v.Slots[i].Gen += 7
		}
	}
	kept, asked := copyOf(v), slices.Clone(c.Data)
	after, r := ops.Do(v, c)
	wantAfter, wantReply := copyOf(after), r
	wantReply.Data, wantReply.Entries = slices.Clone(r.Data), slices.Clone(r.Entries)
	if c.Data == nil {
		asked = nil
	}
	for k := range r.Data {
		r.Data[k] ^= 0xff
	}
	for k := range r.Entries {
		r.Entries[k].Cookie += 9
	}
	if !sameThings(after, wantAfter) || !sameThings(v, kept) || !bytes.Equal(c.Data, asked) {
		t.Errorf("%+v: the reply shares memory", c)
	}
	scribble(after)
	if !sameThings(v, kept) || !bytes.Equal(c.Data, asked) {
		t.Errorf("%+v: the things after it share memory with an argument", c)
	}
	after, r = ops.Do(v, c)
	scribble(v)
	for k := range c.Data {
		c.Data[k] ^= 0xff
	}
	if !sameThings(after, wantAfter) || !sameReply(r, wantReply) {
		t.Errorf("%+v: a result shares memory with an argument", c)
	}
}

func TestNewMemory(t *testing.T) {
	for _, c := range everyCall() {
		c.Data = slices.Clone(c.Data)
		scribbled(t, copyOf(sample()), c)
	}
	scribbled(t, copyOf(sample()), call.Call{Op: 17})
	scribbled(t, copyOf(sample()), call.Call{Op: call.Getattr, At: none})
	short := copyOf(sample())
	short.Slots = short.Slots[:7]
	scribbled(t, short, call.Call{Op: call.Getattr, At: root})
}

// everyCall returns one call of each operation, which succeeds on the sample.
func everyCall() []call.Call {
	return []call.Call{
		{Op: call.Lookup, At: root, Name: "f"},
		{Op: call.Getattr, At: f},
		{Op: call.Setattr, At: f, Mode: 0o600, Offset: 1, Count: 90},
		{Op: call.Read, At: f, Count: 50},
		{Op: call.Write, At: f, Offset: 5, Data: []byte("abc")},
		{Op: call.Create, At: root, Name: "new", Count: 1, Verf: 9},
		{Op: call.Mkdir, At: d, Name: "new"},
		{Op: call.Symlink, At: d, Name: "new", Data: []byte("to")},
		{Op: call.Readlink, At: s},
		{Op: call.Remove, At: d, Name: "g"},
		{Op: call.Rmdir, At: root, Name: "e"},
		{Op: call.Rename, At: root, Name: "f", To: e, ToName: "g"},
		{Op: call.Link, At: f, To: e, ToName: "f"},
		{Op: call.Readdir, At: root, Count: 3},
		{Op: call.Fsstat, At: s},
		{Op: call.Commit, At: f},
	}
}

func TestEveryCallSucceeds(t *testing.T) {
	for i, c := range everyCall() {
		c.Client, c.Xid = 7, 8
		after, r := ops.Do(sample(), c)
		if r.Status != api.OK || c.Op != uint32(i+1) || r.Client != 7 || r.Xid != 8 {
			t.Error(c, r)
		}
		if call.Changes(c.Op) == sameThings(after, sample()) {
			t.Error(c, "changes something, or not")
		}
	}
}

func TestStaleHandles(t *testing.T) {
	bad := []api.Handle{gone, older, none, {Ino: 5, Gen: 9}, {Ino: 9}, {Ino: 23}, {Ino: 0, Gen: 0}, {Ino: 0, Gen: 2}, {Ino: 256, Gen: 1}, {Ino: math.MaxUint32, Gen: 1}, {Ino: 1 << 31, Gen: 1}}
	for _, h := range bad {
		for _, c := range everyCall() {
			c.At = h
			wantError(t, sample(), c, api.ErrStale)
		}
		wantError(t, sample(), call.Call{Op: call.Link, At: f, To: h, ToName: "f"}, api.ErrStale)
		wantError(t, sample(), call.Call{Op: call.Rename, At: root, Name: "f", To: h, ToName: "f"}, api.ErrStale)
	}
}

func TestDirectoriesThatAreNone(t *testing.T) {
	for _, h := range []api.Handle{f, s, blank} {
		for _, op := range []uint32{call.Lookup, call.Readdir, call.Create, call.Mkdir, call.Symlink, call.Remove, call.Rmdir, call.Rename} {
			// Every later error applies as well.
			wantError(t, sample(), call.Call{Op: op, At: h, Name: "..", Offset: 5, Verf: 9, Count: 9}, api.ErrNotDir)
		}
		wantError(t, sample(), call.Call{Op: call.Link, At: f, To: h, ToName: ".."}, api.ErrNotDir)
		wantError(t, sample(), call.Call{Op: call.Rename, At: root, Name: "..", To: h, ToName: ".."}, api.ErrNotDir)
	}
}

func TestNamesThatAreNotValid(t *testing.T) {
	for _, name := range badNames() {
		for _, op := range []uint32{call.Lookup, call.Create, call.Mkdir, call.Symlink, call.Remove, call.Rmdir} {
			wantError(t, sample(), call.Call{Op: op, At: root, Name: name, Count: 9}, api.ErrName)
		}
		wantError(t, sample(), call.Call{Op: call.Link, At: f, To: root, ToName: name}, api.ErrName)
		wantError(t, sample(), call.Call{Op: call.Rename, At: root, Name: name, To: root, ToName: "x"}, api.ErrName)
		wantError(t, sample(), call.Call{Op: call.Rename, At: root, Name: "f", To: root, ToName: name}, api.ErrName)
		wantError(t, sample(), call.Call{Op: call.Rename, At: root, Name: "nothing", To: root, ToName: name}, api.ErrName)
	}
	long := strings.Repeat("n", 24)
	wantError(t, sample(), call.Call{Op: call.Lookup, At: root, Name: long}, api.ErrNoEnt)
	if _, r := ops.Do(sample(), call.Call{Op: call.Mkdir, At: root, Name: long}); r.Status != api.OK {
		t.Error(r)
	}
}

func TestNamesThatDoNotMatter(t *testing.T) {
	// Operations on a thing take neither a name nor To.
	for _, c := range everyCall() {
		switch c.Op {
		case call.Getattr, call.Setattr, call.Read, call.Write, call.Readlink, call.Readdir, call.Fsstat, call.Commit:
			_, plain := ops.Do(sample(), c)
			c.Name, c.ToName, c.To = "..", "..", gone
			if _, r := ops.Do(sample(), c); !sameReply(r, plain) {
				t.Error(c, r, plain)
			}
		}
	}
}

// P13.2

func TestLookup(t *testing.T) {
	v := sample()
	for name, h := range map[string]api.Handle{"d": d, "f": f, "s": s, "e": e, "blank": blank} {
		wantAsked(t, v, call.Call{Op: call.Lookup, At: root, Name: name}, reported(v, h))
	}
	wantAsked(t, v, call.Call{Op: call.Lookup, At: d, Name: "g"}, reported(v, f))
	wantAsked(t, v, call.Call{Op: call.Lookup, At: sub, Name: "deep"}, reported(v, deep))
	wantError(t, v, call.Call{Op: call.Lookup, At: root, Name: "g"}, api.ErrNoEnt)
	wantError(t, v, call.Call{Op: call.Lookup, At: e, Name: "d"}, api.ErrNoEnt)
	wantError(t, v, call.Call{Op: call.Lookup, At: root, Name: "D"}, api.ErrNoEnt)
	wantError(t, v, call.Call{Op: call.Lookup, At: root, Name: "gone"}, api.ErrStale)
}

func TestGetattrAndCommit(t *testing.T) {
	v := sample()
	for _, h := range []api.Handle{root, d, f, s, e, sub, deep, blank} {
		r := reported(v, h)
		wantAsked(t, v, call.Call{Op: call.Getattr, At: h}, r)
		r.Verf = 1
		wantAsked(t, v, call.Call{Op: call.Commit, At: h, Verf: 5}, r)
	}
}

func TestReportTellsEveryField(t *testing.T) {
	v := with(sample(), func(l []slot.Slot) {
		l[2] = slot.Slot{Ino: 2, Kind: api.File, Gen: 1<<32 - 1, Links: 1<<32 - 2, Mode: 1<<32 - 3, Change: 1<<64 - 4, Cookie: 8, Verf: 6, Data: patterned(768)}
	})
	h := api.Handle{Ino: 2, Gen: 1<<32 - 1}
	wantAsked(t, v, call.Call{Op: call.Getattr, At: h}, call.Reply{At: h, Attr: call.Attr{Kind: 1, Mode: 1<<32 - 3, Links: 1<<32 - 2, Size: 768, Change: 1<<64 - 4}})
}

func TestFsstat(t *testing.T) {
	rooms := map[int]uint32{20: 20 - usedBySample, usedBySample + 1: 1, usedBySample: 0, usedBySample - 1: 0, 0: 0, -1: 0, math.MinInt: 0, math.MinInt + 3: 0}
	big := uint64(1)<<32 + usedBySample + 5
	if math.MaxInt > math.MaxInt32 {
		rooms[int(big)] = 5
		rooms[int(big)-5] = 0
		rooms[int(big)-6] = math.MaxUint32
	}
	most := math.MaxInt
	rooms[most] = uint32(most - usedBySample)
	for room, free := range rooms {
		v := sample()
		v.Room = room
		for _, h := range []api.Handle{root, f, s} {
			r := reported(v, h)
			r.Free = free
			wantAsked(t, v, call.Call{Op: call.Fsstat, At: h}, r)
		}
	}
}

func TestSetattrMode(t *testing.T) {
	for _, mode := range []uint32{0, 1, 0o640, 511, 512, 513, 1<<32 - 1} {
		for _, h := range []api.Handle{root, d, f, s, deep, blank} {
			after := committed(sample(), func(l []slot.Slot) { l[h.Ino].Mode = mode % 512 }, h)
			want(t, sample(), call.Call{Op: call.Setattr, At: h, Mode: mode, Count: 5000}, reported(after, h), after)
		}
	}
}

func TestSetattrSize(t *testing.T) {
	for _, count := range []uint32{0, 1, 95, 96, 97, 99, 100, 101, 192, 193, 767, 768} {
		after := committed(sample(), func(l []slot.Slot) {
			l[2].Data = slices.Concat(l[2].Data, make([]byte, 768))[:count]
			l[2].Mode = 5
		}, f)
		want(t, sample(), call.Call{Op: call.Setattr, At: f, Offset: 1, Count: count, Mode: 5}, reported(after, f), after)
		after = committed(sample(), func(l []slot.Slot) { l[8].Data = make([]byte, count) }, blank)
		want(t, sample(), call.Call{Op: call.Setattr, At: blank, Offset: 1, Count: count}, reported(after, blank), after)
	}
	for _, count := range []uint32{769, 1000, 1 << 31, math.MaxUint32} {
		wantError(t, sample(), call.Call{Op: call.Setattr, At: f, Offset: 1, Count: count}, api.ErrFBig)
		wantError(t, sample(), call.Call{Op: call.Setattr, At: d, Offset: 1, Count: count}, api.ErrIsDir)
		wantError(t, sample(), call.Call{Op: call.Setattr, At: s, Offset: 1, Count: count}, api.ErrInval)
	}
	wantError(t, sample(), call.Call{Op: call.Setattr, At: root, Offset: 1}, api.ErrIsDir)
	wantError(t, sample(), call.Call{Op: call.Setattr, At: s, Offset: 1}, api.ErrInval)
}

func TestSetattrOffset(t *testing.T) {
	for _, offset := range []uint64{2, 3, 1 << 32, 1<<32 + 1, math.MaxUint64} {
		for _, h := range []api.Handle{root, f, s} {
			wantError(t, sample(), call.Call{Op: call.Setattr, At: h, Offset: offset, Count: 9999}, api.ErrInval)
		}
	}
}

func TestRead(t *testing.T) {
	v := sample()
	data := patterned(100)
	offsets := []uint64{0, 1, 50, 99, 100, 101, 768, 769, 1 << 31, 1 << 32, 1<<32 + 3, math.MaxUint64}
	counts := []uint32{0, 1, 2, 49, 50, 51, 99, 100, 101, 1 << 31, math.MaxUint32}
	for _, offset := range offsets {
		for _, count := range counts {
			r := reported(v, f)
			r.Eof = true
			if offset < 100 {
				r.Data = data[offset:]
			}
			if uint64(len(r.Data)) > uint64(count) {
				r.Data, r.Eof = r.Data[:count], false
			}
			wantAsked(t, v, call.Call{Op: call.Read, At: f, Offset: offset, Count: count}, r)
			r = reported(v, blank)
			r.Eof = true
			wantAsked(t, v, call.Call{Op: call.Read, At: blank, Offset: offset, Count: count}, r)
		}
	}
	wantError(t, v, call.Call{Op: call.Read, At: d, Count: 1}, api.ErrIsDir)
	wantError(t, v, call.Call{Op: call.Read, At: s, Count: 1}, api.ErrInval)
}

func TestWrite(t *testing.T) {
	for _, offset := range []int{0, 1, 95, 96, 99, 100, 101, 150, 192, 400, 766, 767, 768} {
		for _, n := range []int{0, 1, 2, 96, 100, 368, 767, 768} {
			data := bytes.Repeat([]byte{0xee}, n)
			c := call.Call{Op: call.Write, At: f, Offset: uint64(offset), Data: data, Count: 3, Mode: 9}
			if offset+n > 768 {
				wantError(t, sample(), c, api.ErrFBig)
				continue
			}
			if n == 0 {
				wantAsked(t, sample(), c, reported(sample(), f))
				continue
			}
			after := committed(sample(), func(l []slot.Slot) {
				b := slices.Concat(l[2].Data, make([]byte, 768))[:max(100, offset+n)]
				copy(b[offset:], data)
				l[2].Data = b
			}, f)
			want(t, sample(), c, reported(after, f), after)
		}
	}
}

func TestWriteTooBig(t *testing.T) {
	for _, offset := range []uint64{769, 1 << 31, 1<<32 - 1, 1 << 32, 1 << 63, math.MaxUint64 - 1, math.MaxUint64} {
		for _, n := range []int{0, 1, 2, 3} {
			wantError(t, sample(), call.Call{Op: call.Write, At: f, Offset: offset, Data: make([]byte, n)}, api.ErrFBig)
		}
	}
	wantError(t, sample(), call.Call{Op: call.Write, At: f, Data: make([]byte, 769)}, api.ErrFBig)
	wantError(t, sample(), call.Call{Op: call.Write, At: f, Data: make([]byte, 100000)}, api.ErrFBig)
	for _, n := range []int{0, 1, 769} {
		wantError(t, sample(), call.Call{Op: call.Write, At: root, Data: make([]byte, n)}, api.ErrIsDir)
		wantError(t, sample(), call.Call{Op: call.Write, At: s, Data: make([]byte, n)}, api.ErrInval)
	}
}

func TestWriteOfTheSameBytesIsAChange(t *testing.T) {
	after := committed(sample(), func([]slot.Slot) {}, f)
	want(t, sample(), call.Call{Op: call.Write, At: f, Offset: 4, Data: patterned(100)[4:9]}, reported(after, f), after)
}

func TestReadlink(t *testing.T) {
	v := sample()
	r := reported(v, s)
	r.Data = []byte("d/f")
	wantAsked(t, v, call.Call{Op: call.Readlink, At: s, Offset: 1, Count: 1}, r)
	for _, h := range []api.Handle{root, f, blank} {
		wantError(t, v, call.Call{Op: call.Readlink, At: h}, api.ErrInval)
	}
}

func TestReaddir(t *testing.T) {
	v := sample()
	all := []dir.Entry{entry(2, d, "d"), entry(3, f, "f"), entry(4, s, "s"), entry(6, e, "e"), entry(7, gone, "gone"), entry(9, blank, "blank")}
	for _, offset := range []uint64{0, 1, 2, 4, 5, 6, 8, 9, 10, 1 << 32, math.MaxUint64} {
		for _, count := range []uint32{1, 2, 3, 5, 6, 7, 24, 25, 1 << 31, math.MaxUint32} {
			r := reported(v, root)
			r.Verf, r.Eof = 1, true
			for _, x := range all {
				if x.Cookie > offset {
					r.Entries = append(r.Entries, x)
				}
			}
			if uint64(len(r.Entries)) > uint64(count) {
				r.Entries, r.Eof = r.Entries[:count], false
			}
			wantAsked(t, v, call.Call{Op: call.Readdir, At: root, Offset: offset, Count: count, Verf: 1}, r)
		}
		if offset != 0 {
			for _, verf := range []uint64{0, 2, 1<<32 + 1} {
				wantError(t, v, call.Call{Op: call.Readdir, At: root, Offset: offset, Count: 9, Verf: verf}, api.ErrCookie)
			}
		}
		wantError(t, v, call.Call{Op: call.Readdir, At: root, Offset: offset, Verf: 9}, api.ErrInval)
	}
	r := reported(v, e)
	r.Verf, r.Eof = 2, true
	for _, verf := range []uint64{0, 1, 2, math.MaxUint64} { // without a position it does not matter
		wantAsked(t, v, call.Call{Op: call.Readdir, At: e, Count: 1, Verf: verf}, r)
	}
}

func TestReaddirOfManyEntries(t *testing.T) {
	for _, n := range []int{23, 24, 25, 32} {
		var all []dir.Entry
		for i := range n {
			all = append(all, entry(uint64(i+1), f, string([]byte{'a' + byte(i/26), 'a' + byte(i%26)})))
		}
		v := with(sample(), func(l []slot.Slot) { l[4] = directory(e, 5, 100, all...) })
		for _, count := range []uint32{1, 23, 24, 25, 32, math.MaxUint32} {
			k := min(n, int(min(count, 24)))
			r := reported(v, e)
			r.Verf, r.Entries, r.Eof = 2, all[:k], k == n
			wantAsked(t, v, call.Call{Op: call.Readdir, At: e, Count: count}, r)
		}
		r := reported(v, e)
		r.Verf, r.Entries, r.Eof = 2, all[20:], true
		wantAsked(t, v, call.Call{Op: call.Readdir, At: e, Offset: 20, Verf: 2, Count: 24}, r)
	}
}

// P13.3

// withEntry returns the bytes of the entries of x, and another one.
func withEntry(x slot.Slot, l ...dir.Entry) []byte {
	return slices.Concat(x.Data, entryBytes(l...))
}

// withoutEntry returns the bytes of the entries of x but that one.
func withoutEntry(x slot.Slot, name string) []byte {
	l, _ := dir.Get(x.Data)
	return entryBytes(slices.DeleteFunc(l, func(y dir.Entry) bool { return y.Name == name })...)
}

// created returns the sample with a thing in slot 5, the lowest free one, under the name new in the root.
func created(made slot.Slot) (ops.Things, api.Handle) {
	h := api.Handle{Ino: 5, Gen: 10}
	return committed(sample(), func(l []slot.Slot) {
		made.Ino, made.Gen, made.Links = 5, 10, 1
		l[5] = made
		l[0].Cookie = 12
		l[0].Data = withEntry(l[0], entry(12, h, "new"))
	}, root, h), h
}

func TestCreate(t *testing.T) {
	for count, verf := range []uint64{0, 1 << 40, 0} {
		for _, mode := range []uint32{0, 0o644, 511, 512, 1<<32 - 1} {
			after, h := created(slot.Slot{Kind: api.File, Mode: mode % 512, Verf: verf})
			c := call.Call{Op: call.Create, At: root, Name: "new", Count: uint32(count), Verf: 1 << 40, Mode: mode, Data: []byte("no data"), Offset: 3}
			want(t, sample(), c, reported(after, h), after)
		}
	}
	for _, count := range []uint32{3, 4, 256, 1 << 31, math.MaxUint32} {
		wantError(t, sample(), call.Call{Op: call.Create, At: root, Name: "new", Count: count}, api.ErrInval)
		wantError(t, sample(), call.Call{Op: call.Create, At: root, Name: "f", Count: count}, api.ErrInval)
		wantError(t, sample(), call.Call{Op: call.Create, At: root, Name: "gone", Count: count}, api.ErrInval)
	}
}

func TestCreateOfANameThatExists(t *testing.T) {
	v := sample()
	for _, name := range []string{"d", "s", "e", "f", "blank", "gone"} {
		file := name == "f" || name == "blank"
		h := map[string]api.Handle{"f": f, "blank": blank}[name]
		for count := range uint32(3) {
			for _, verf := range []uint64{0, 1, 76, 77, 77 + 1<<32} {
				c := call.Call{Op: call.Create, At: root, Name: name, Count: count, Verf: verf, Mode: 1}
				switch {
				case name == "gone":
					wantError(t, v, c, api.ErrStale)
				case file && (count == 0 || count == 1 && name == "f" && verf == 77):
					wantAsked(t, v, c, reported(v, h))
				default: // also where both have a Verf of 0
					wantError(t, v, c, api.ErrExist)
				}
			}
		}
	}
	// A link has a Verf as well, but is no File.
	v = with(v, func(l []slot.Slot) { l[3].Verf = 9; l[4].Verf = 9 })
	wantError(t, v, call.Call{Op: call.Create, At: root, Name: "s", Count: 1, Verf: 9}, api.ErrExist)
	wantError(t, v, call.Call{Op: call.Create, At: root, Name: "e", Count: 1, Verf: 9}, api.ErrExist)
}

func TestMkdir(t *testing.T) {
	for _, mode := range []uint32{0, 0o700, 512, 1<<32 - 1} {
		after, h := created(slot.Slot{Kind: api.Dir, Mode: mode % 512})
		c := call.Call{Op: call.Mkdir, At: root, Name: "new", Mode: mode, Count: 9, Verf: 9, Data: []byte("no data")}
		want(t, sample(), c, reported(after, h), after)
	}
	for _, name := range []string{"d", "f", "s", "gone"} {
		wantError(t, sample(), call.Call{Op: call.Mkdir, At: root, Name: name}, api.ErrExist)
	}
}

func TestMkdirInANewVolume(t *testing.T) {
	v := ops.Format(30)
	after := committed(v, func(l []slot.Slot) {
		l[1] = slot.Slot{Ino: 1, Kind: api.Dir, Gen: 1, Links: 1}
		l[0].Cookie = 1
		l[0].Data = entryBytes(entry(1, api.Handle{Ino: 1, Gen: 1}, "a"))
	}, root, api.Handle{Ino: 1})
	want(t, v, call.Call{Op: call.Mkdir, At: root, Name: "a"}, reported(after, api.Handle{Ino: 1}), after)
	if after.Change != 2 {
		t.Error(after)
	}
}

func TestSymlink(t *testing.T) {
	for _, n := range []int{1, 2, 96, 97, 768} {
		after, h := created(slot.Slot{Kind: api.Link, Mode: 7, Data: patterned(n)})
		c := call.Call{Op: call.Symlink, At: root, Name: "new", Mode: 512 + 7, Count: 9, Verf: 9, Data: patterned(n)}
		want(t, sample(), c, reported(after, h), after)
	}
	for _, n := range []int{0, 769, 1024, 100000} {
		wantError(t, sample(), call.Call{Op: call.Symlink, At: root, Name: "new", Data: make([]byte, n)}, api.ErrInval)
		wantError(t, sample(), call.Call{Op: call.Symlink, At: root, Name: "gone", Data: make([]byte, n)}, api.ErrExist)
	}
}

// makers returns a call of each operation that creates a thing, in h under the name new.
func makers(h api.Handle) []call.Call {
	return []call.Call{
		{Op: call.Create, At: h, Name: "new"},
		{Op: call.Mkdir, At: h, Name: "new"},
		{Op: call.Symlink, At: h, Name: "new", Data: []byte{1}},
	}
}

// filled returns v with a file in each free slot but those that are left.
func filled(v ops.Things, left ...int) ops.Things {
	return with(v, func(l []slot.Slot) {
		for i := range l {
			if l[i].Kind == api.Free && !slices.Contains(left, i) {
				l[i] = slot.Slot{Ino: uint32(i), Kind: api.File, Links: 1}
			}
		}
	})
}

func TestCreateInTheLowestFreeSlot(t *testing.T) {
	for _, at := range []int{5, 9, 14, 23} {
		for _, gen := range []uint32{0, 1, 41, math.MaxUint32 - 1, math.MaxUint32} {
			v := with(filled(sample(), at), func(l []slot.Slot) { l[at].Gen, l[at].Change = gen, 5 })
			for _, c := range makers(deep) {
				after, r := ops.Do(v, c)
				if r.Status != api.OK || r.At != (api.Handle{Ino: uint32(at), Gen: gen + 1}) || after.Slots[at].Change != 41 {
					t.Error(at, gen, r)
				}
				l, _ := dir.Get(after.Slots[7].Data)
				if !slices.Equal(l, []dir.Entry{entry(1, r.At, "new")}) {
					t.Error(l)
				}
			}
		}
	}
	for _, c := range makers(deep) {
		wantError(t, filled(sample()), c, api.ErrNoSpc)
		// Also in slot 0, where the root was.
		v := with(sample(), func(l []slot.Slot) { l[0] = slot.Slot{Gen: 1, Change: 8} })
		if after, r := ops.Do(v, c); r.Status != api.OK || r.At != (api.Handle{Gen: 2}) || after.Slots[0].Change != 41 {
			t.Error(r)
		}
	}
}

func TestNoSlotIsAheadOfTheEntry(t *testing.T) {
	v := with(filled(sample()), func(l []slot.Slot) { l[7].Cookie = math.MaxUint64 })
	for _, c := range makers(deep) {
		wantError(t, v, c, api.ErrNoSpc)
	}
	wantError(t, v, call.Call{Op: call.Symlink, At: deep, Name: "new"}, api.ErrInval)
}

func TestCookiesEnd(t *testing.T) {
	last := with(sample(), func(l []slot.Slot) { l[7].Cookie = math.MaxUint64 - 1 })
	end := with(sample(), func(l []slot.Slot) { l[7].Cookie = math.MaxUint64 })
	calls := append(makers(deep),
		call.Call{Op: call.Link, At: f, To: deep, ToName: "new"},
		call.Call{Op: call.Rename, At: root, Name: "f", To: deep, ToName: "new"})
	for _, c := range calls {
		after, r := ops.Do(last, c)
		l, _ := dir.Get(after.Slots[7].Data)
		if r.Status != api.OK || after.Slots[7].Cookie != math.MaxUint64 || !slices.Equal(l, []dir.Entry{entry(math.MaxUint64, r.At, "new")}) {
			t.Error(c, r, l)
		}
		wantError(t, end, c, api.ErrCookie)
	}
	// Ahead of the length of the directory.
	end = with(end, func(l []slot.Slot) { l[7] = crowded(deep, math.MaxUint64, 32) })
	for _, c := range calls {
		wantError(t, end, c, api.ErrCookie)
	}
	// A directory that is only read, or that loses an entry, does not mind.
	end = with(sample(), func(l []slot.Slot) { l[0].Cookie = math.MaxUint64 })
	after := committed(end, func(l []slot.Slot) { l[0].Data = withoutEntry(l[0], "e"); l[4] = slot.Slot{Ino: 4, Gen: 2} }, root, e)
	want(t, end, call.Call{Op: call.Rmdir, At: root, Name: "e"}, reported(after, root), after)
}

// crowded returns a directory with n entries of 24 bytes.
func crowded(h api.Handle, cookie uint64, n int) slot.Slot {
	var l []dir.Entry
	for i := range n {
		l = append(l, entry(uint64(i+1), blank, string([]byte{'a' + byte(i/26), 'a' + byte(i%26)})))
	}
	return directory(h, 8, cookie, l...)
}

func TestDirectoriesFill(t *testing.T) {
	calls := append(makers(deep),
		call.Call{Op: call.Link, At: f, To: deep, ToName: "new"},
		call.Call{Op: call.Rename, At: root, Name: "f", To: deep, ToName: "new"})
	for _, c := range calls {
		// 31 entries leave 24 bytes: enough for a name of four bytes.
		v := with(sample(), func(l []slot.Slot) { l[7] = crowded(deep, 90, 31) })
		for _, name := range []string{"n", "new4"} {
			c.Name, c.ToName = name, name
			if c.Op == call.Rename {
				c.Name = "f"
			}
			after, r := ops.Do(v, c)
			if r.Status != api.OK || len(after.Slots[7].Data) != 768 || after.Slots[7].Cookie != 91 {
				t.Error(c, r)
			}
		}
		c.ToName = "new-5"
		if c.Op != call.Rename {
			c.Name = "new-5"
		}
		wantError(t, v, c, api.ErrNoSpc)
		c.ToName = "n"
		if c.Op != call.Rename {
			c.Name = "n"
		}
		v = with(sample(), func(l []slot.Slot) { l[7] = crowded(deep, 90, 32) })
		wantError(t, v, c, api.ErrNoSpc)
	}
}

func TestRoom(t *testing.T) {
	// What each call needs more than the sample, in blocks.
	needs := []struct {
		more int
		c    call.Call
	}{
		{0, call.Call{Op: call.Setattr, At: root}},
		{1, call.Call{Op: call.Setattr, At: blank, Offset: 1, Count: 1}},
		{6, call.Call{Op: call.Setattr, At: f, Offset: 1, Count: 768}},
		{-1, call.Call{Op: call.Setattr, At: f, Offset: 1, Count: 96}},
		{-2, call.Call{Op: call.Setattr, At: f, Offset: 1}},
		{0, call.Call{Op: call.Write, At: f, Data: patterned(192)}},
		{1, call.Call{Op: call.Write, At: f, Data: patterned(193)}},
		{8, call.Call{Op: call.Write, At: blank, Offset: 767, Data: []byte{1}}},
		{1, call.Call{Op: call.Create, At: e, Name: "new"}},
		{0, call.Call{Op: call.Create, At: d, Name: "new"}},
		{1, call.Call{Op: call.Mkdir, At: e, Name: "new"}},
		{3, call.Call{Op: call.Symlink, At: e, Name: "new", Data: patterned(97)}},
		{0, call.Call{Op: call.Remove, At: root, Name: "f"}},
		{-1, call.Call{Op: call.Remove, At: root, Name: "s"}},
		{0, call.Call{Op: call.Rmdir, At: root, Name: "e"}},
		{-1, call.Call{Op: call.Rmdir, At: sub, Name: "deep"}},
		{1, call.Call{Op: call.Link, At: f, To: e, ToName: "new"}},
		{1, call.Call{Op: call.Rename, At: root, Name: "f", To: e, ToName: "new"}},
		{0, call.Call{Op: call.Rename, At: root, Name: "blank", To: root, ToName: "x"}},
		{-1, call.Call{Op: call.Rename, At: root, Name: "blank", To: root, ToName: "s"}},
	}
	for _, x := range needs {
		v := sample()
		for room := usedBySample + x.more - 2; room <= usedBySample+x.more+2; room++ {
			v.Room = room
			after, r := ops.Do(v, x.c)
			if room < usedBySample+x.more {
				wantError(t, v, x.c, api.ErrNoSpc)
			} else if r.Status != api.OK || ops.Used(after) != usedBySample+x.more || after.Room != room {
				t.Error(x.c, room, r, ops.Used(after))
			}
		}
	}
	// What changes nothing needs no room.
	v := sample()
	v.Room = -9
	wantAsked(t, v, call.Call{Op: call.Write, At: f}, reported(v, f))
	wantAsked(t, v, call.Call{Op: call.Create, At: root, Name: "f"}, reported(v, f))
	wantAsked(t, v, call.Call{Op: call.Rename, At: root, Name: "f", To: d, ToName: "g"}, reported(v, f))
	wantError(t, v, call.Call{Op: call.Rmdir, At: root, Name: "e"}, api.ErrNoSpc)
}

func TestChangeWraps(t *testing.T) {
	v := sample()
	v.Change = math.MaxUint64
	after := with(v, func(l []slot.Slot) { l[2].Change, l[2].Mode = 0, 1 })
	after.Change = 0
	want(t, v, call.Call{Op: call.Setattr, At: f, Mode: 1}, reported(after, f), after)
}

func TestRemove(t *testing.T) {
	// One of two links.
	after := committed(sample(), func(l []slot.Slot) { l[0].Data = withoutEntry(l[0], "f"); l[2].Links = 1 }, root, f)
	want(t, sample(), call.Call{Op: call.Remove, At: root, Name: "f"}, reported(after, root), after)
	after = committed(sample(), func(l []slot.Slot) { l[1].Data = withoutEntry(l[1], "g"); l[2].Links = 1 }, d, f)
	want(t, sample(), call.Call{Op: call.Remove, At: d, Name: "g"}, reported(after, d), after)
	// The last link: Ino, Gen and Change are kept.
	single := with(sample(), func(l []slot.Slot) { l[2].Links, l[2].Cookie = 1, 6 })
	after = committed(single, func(l []slot.Slot) { l[0].Data = withoutEntry(l[0], "f"); l[2] = slot.Slot{Ino: 2, Gen: 5} }, root, f)
	want(t, single, call.Call{Op: call.Remove, At: root, Name: "f"}, reported(after, root), after)
	after = committed(sample(), func(l []slot.Slot) { l[0].Data = withoutEntry(l[0], "s"); l[3] = slot.Slot{Ino: 3, Gen: 1} }, root, s)
	want(t, sample(), call.Call{Op: call.Remove, At: root, Name: "s"}, reported(after, root), after)

	wantError(t, sample(), call.Call{Op: call.Remove, At: root, Name: "nothing"}, api.ErrNoEnt)
	wantError(t, sample(), call.Call{Op: call.Remove, At: root, Name: "gone"}, api.ErrStale)
	wantError(t, sample(), call.Call{Op: call.Remove, At: root, Name: "d"}, api.ErrIsDir)
	wantError(t, sample(), call.Call{Op: call.Remove, At: root, Name: "e"}, api.ErrIsDir)
}

func TestRmdir(t *testing.T) {
	after := committed(sample(), func(l []slot.Slot) { l[0].Data = withoutEntry(l[0], "e"); l[4] = slot.Slot{Ino: 4, Gen: 2} }, root, e)
	want(t, sample(), call.Call{Op: call.Rmdir, At: root, Name: "e"}, reported(after, root), after)
	twice := with(sample(), func(l []slot.Slot) { l[7].Links = 2 })
	after = committed(twice, func(l []slot.Slot) { l[6].Data = nil; l[7].Links = 1 }, sub, deep)
	want(t, twice, call.Call{Op: call.Rmdir, At: sub, Name: "deep"}, reported(after, sub), after)

	wantError(t, sample(), call.Call{Op: call.Rmdir, At: root, Name: "nothing"}, api.ErrNoEnt)
	wantError(t, sample(), call.Call{Op: call.Rmdir, At: root, Name: "gone"}, api.ErrStale)
	wantError(t, sample(), call.Call{Op: call.Rmdir, At: root, Name: "d"}, api.ErrNotEmpty)
	wantError(t, sample(), call.Call{Op: call.Rmdir, At: d, Name: "sub"}, api.ErrNotEmpty)
	for _, name := range []string{"f", "s", "blank"} {
		wantError(t, sample(), call.Call{Op: call.Rmdir, At: root, Name: name}, api.ErrNotDir)
	}
}

func TestTheRootMayBeRemoved(t *testing.T) {
	v := with(ops.Format(9), func(l []slot.Slot) {
		l[1] = directory(api.Handle{Ino: 1, Gen: 4}, 1, 7, entry(7, root, "up"))
	})
	after := committed(v, func(l []slot.Slot) { l[1].Data = nil; l[0] = slot.Slot{Gen: 1} }, root, api.Handle{Ino: 1})
	want(t, v, call.Call{Op: call.Rmdir, At: api.Handle{Ino: 1, Gen: 4}, Name: "up"}, reported(after, api.Handle{Ino: 1}), after)
}

// P13.4

func TestLink(t *testing.T) {
	for _, h := range []api.Handle{f, s, blank} {
		after := committed(sample(), func(l []slot.Slot) {
			l[h.Ino].Links++
			l[1].Cookie = 6
			l[1].Data = withEntry(l[1], entry(6, h, "new"))
		}, h, d)
		want(t, sample(), call.Call{Op: call.Link, At: h, To: d, ToName: "new", Name: "..", Mode: 5}, reported(after, h), after)
	}
	for _, h := range []api.Handle{root, d, e} {
		wantError(t, sample(), call.Call{Op: call.Link, At: h, To: d, ToName: "new"}, api.ErrIsDir)
		wantError(t, sample(), call.Call{Op: call.Link, At: h, To: gone, ToName: ".."}, api.ErrIsDir)
	}
	for _, name := range []string{"f", "d", "s", "gone"} {
		wantError(t, sample(), call.Call{Op: call.Link, At: f, To: root, ToName: name}, api.ErrExist)
	}
}

func TestLinksWrap(t *testing.T) {
	v := with(sample(), func(l []slot.Slot) { l[2].Links = math.MaxUint32 })
	after, r := ops.Do(v, call.Call{Op: call.Link, At: f, To: e, ToName: "new"})
	if r.Status != api.OK || r.Attr.Links != 0 || after.Slots[2].Links != 0 || after.Slots[2].Kind != api.File {
		t.Error(r)
	}
	// It was the one thing after which the things are not valid.
	if _, r := ops.Do(after, call.Call{Op: call.Getattr, At: root}); r.Status != api.ErrInval {
		t.Error(r)
	}
}

func TestRename(t *testing.T) {
	// To another directory.
	for _, x := range []struct {
		name string
		h    api.Handle
	}{{"f", f}, {"s", s}, {"d", d}, {"blank", blank}} {
		after := committed(sample(), func(l []slot.Slot) {
			l[0].Data = withoutEntry(l[0], x.name)
			l[4].Cookie = 4
			l[4].Data = entryBytes(entry(4, x.h, "new"))
		}, root, e, x.h)
		want(t, sample(), call.Call{Op: call.Rename, At: root, Name: x.name, To: e, ToName: "new"}, reported(after, x.h), after)
	}
	// In one directory: it becomes the last entry.
	for _, x := range []struct {
		name string
		h    api.Handle
	}{{"d", d}, {"f", f}, {"blank", blank}} {
		after := committed(sample(), func(l []slot.Slot) {
			l[0].Cookie = 12
			l[0].Data = slices.Concat(withoutEntry(l[0], x.name), entryBytes(entry(12, x.h, "new")))
		}, root, x.h)
		want(t, sample(), call.Call{Op: call.Rename, At: root, Name: x.name, To: root, ToName: "new"}, reported(after, x.h), after)
	}
	// The same name in another directory, upwards.
	after := committed(sample(), func(l []slot.Slot) {
		l[6].Data = nil
		l[0].Cookie = 12
		l[0].Data = withEntry(l[0], entry(12, deep, "deep"))
	}, root, sub, deep)
	want(t, sample(), call.Call{Op: call.Rename, At: sub, Name: "deep", To: root, ToName: "deep"}, reported(after, deep), after)
}

func TestRenameOverAThing(t *testing.T) {
	// A file over a link, in one directory.
	after := committed(sample(), func(l []slot.Slot) {
		l[0].Cookie = 12
		l[0].Data = withoutEntry(l[0], "s")
		l[0].Data = withoutEntry(l[0], "f")
		l[0].Data = withEntry(l[0], entry(12, f, "s"))
		l[3] = slot.Slot{Ino: 3, Gen: 1}
	}, root, f, s)
	want(t, sample(), call.Call{Op: call.Rename, At: root, Name: "f", To: root, ToName: "s"}, reported(after, f), after)
	// A link over one of two links of a file, in another directory.
	after = committed(sample(), func(l []slot.Slot) {
		l[0].Data = withoutEntry(l[0], "s")
		l[1].Cookie = 6
		l[1].Data = withEntry(slot.Slot{Data: withoutEntry(l[1], "g")}, entry(6, s, "g"))
		l[2].Links = 1
	}, root, d, f, s)
	want(t, sample(), call.Call{Op: call.Rename, At: root, Name: "s", To: d, ToName: "g"}, reported(after, s), after)
	// A directory over an empty one, upwards.
	after = committed(sample(), func(l []slot.Slot) {
		l[1].Data = withoutEntry(l[1], "sub")
		l[0].Cookie = 12
		l[0].Data = withEntry(slot.Slot{Data: withoutEntry(l[0], "e")}, entry(12, sub, "e"))
		l[4] = slot.Slot{Ino: 4, Gen: 2}
	}, root, d, e, sub)
	want(t, sample(), call.Call{Op: call.Rename, At: d, Name: "sub", To: root, ToName: "e"}, reported(after, sub), after)
}

func TestRenameToItself(t *testing.T) {
	v := sample()
	wantAsked(t, v, call.Call{Op: call.Rename, At: root, Name: "f", To: root, ToName: "f"}, reported(v, f))
	wantAsked(t, v, call.Call{Op: call.Rename, At: root, Name: "f", To: d, ToName: "g"}, reported(v, f))
	wantAsked(t, v, call.Call{Op: call.Rename, At: d, Name: "g", To: root, ToName: "f"}, reported(v, f))
	wantAsked(t, v, call.Call{Op: call.Rename, At: root, Name: "d", To: root, ToName: "d"}, reported(v, d)) // not ErrNotEmpty
	v.Slots[0].Cookie = math.MaxUint64
	wantAsked(t, v, call.Call{Op: call.Rename, At: root, Name: "d", To: root, ToName: "d"}, reported(v, d))
	// It is asked ahead of whether To lies below.
	v = with(v, func(l []slot.Slot) { l[1] = directory(d, 2, 6, entry(6, d, "self")) })
	wantAsked(t, v, call.Call{Op: call.Rename, At: d, Name: "self", To: d, ToName: "self"}, reported(v, d))
}

func TestRenameErrors(t *testing.T) {
	v := sample()
	for _, x := range []struct {
		at   api.Handle
		name string
		to   api.Handle
		over string
		want api.Errno
	}{
		{gone, "..", gone, "..", api.ErrStale},
		{f, "..", gone, "..", api.ErrNotDir},
		{root, "..", gone, "..", api.ErrStale},
		{root, "..", f, "..", api.ErrNotDir},
		{root, "..", root, "x", api.ErrName},
		{root, "nothing", root, "..", api.ErrName},
		{root, "nothing", root, "d", api.ErrNoEnt},
		{root, "nothing", root, "gone", api.ErrNoEnt},
		{root, "nothing", root, "nothing", api.ErrNoEnt},
		{e, "f", root, "f", api.ErrNoEnt},
		{root, "gone", root, "new", api.ErrStale},
		{root, "gone", root, "gone", api.ErrStale},
		{root, "f", root, "gone", api.ErrStale},
		{root, "d", root, "gone", api.ErrStale},
		{root, "e", root, "f", api.ErrNotDir},
		{root, "e", root, "s", api.ErrNotDir},
		{root, "e", root, "d", api.ErrNotEmpty},
		{root, "f", root, "d", api.ErrIsDir},
		{root, "s", root, "e", api.ErrIsDir},
		{root, "d", d, "g", api.ErrNotDir},     // ahead of ErrInval
		{root, "d", d, "sub", api.ErrNotEmpty}, // ahead of ErrInval
		{root, "d", sub, "deep", api.ErrInval}, // over an empty directory
		{root, "d", d, "new", api.ErrInval},
		{root, "d", sub, "new", api.ErrInval},
		{root, "d", deep, "new", api.ErrInval},
		{d, "sub", deep, "new", api.ErrInval},
		{sub, "deep", deep, "new", api.ErrInval},
		{root, "e", e, "new", api.ErrInval},
	} {
		wantError(t, v, call.Call{Op: call.Rename, At: x.at, Name: x.name, To: x.to, ToName: x.over}, x.want)
	}
	// ErrInval is ahead of what adding finds.
	end := with(v, func(l []slot.Slot) { l[7].Cookie = math.MaxUint64 })
	wantError(t, end, call.Call{Op: call.Rename, At: root, Name: "d", To: deep, ToName: "new"}, api.ErrInval)
}

func TestRenameDownIsOnlyRefusedBelow(t *testing.T) {
	// A sibling, or a directory above, is no directory below; nor is a file's place below anything.
	for _, c := range []call.Call{
		{Op: call.Rename, At: root, Name: "e", To: deep, ToName: "new"},
		{Op: call.Rename, At: root, Name: "d", To: e, ToName: "new"},
		{Op: call.Rename, At: d, Name: "sub", To: d, ToName: "new"},
		{Op: call.Rename, At: sub, Name: "deep", To: root, ToName: "new"},
		{Op: call.Rename, At: root, Name: "f", To: deep, ToName: "new"},
	} {
		if after, r := ops.Do(sample(), c); r.Status != api.OK || after.Change != 41 {
			t.Error(c, r)
		}
	}
	// An entry whose handle is not that of the directory makes nothing lie below.
	v := with(sample(), func(l []slot.Slot) {
		l[4] = directory(e, 5, 3, entry(2, api.Handle{Ino: 6, Gen: 2}, "was"), entry(3, gone, "gone"))
	})
	if _, r := ops.Do(v, call.Call{Op: call.Rename, At: root, Name: "e", To: deep, ToName: "new"}); r.Status != api.OK {
		t.Error(r)
	}
	v = with(v, func(l []slot.Slot) { l[4] = directory(e, 5, 3, entry(2, sub, "is")) })
	wantError(t, v, call.Call{Op: call.Rename, At: root, Name: "e", To: deep, ToName: "new"}, api.ErrInval)
}

func TestRenameInACircle(t *testing.T) {
	// deep has d again: d, sub and deep all lie below each other.
	v := with(sample(), func(l []slot.Slot) {
		l[7] = directory(deep, 8, 2, entry(1, d, "d"), entry(2, deep, "self"))
		l[1].Links = 2
	})
	for _, to := range []api.Handle{d, sub, deep} {
		wantError(t, v, call.Call{Op: call.Rename, At: root, Name: "d", To: to, ToName: "new"}, api.ErrInval)
		wantError(t, v, call.Call{Op: call.Rename, At: d, Name: "sub", To: to, ToName: "new"}, api.ErrInval)
		wantError(t, v, call.Call{Op: call.Rename, At: deep, Name: "self", To: to, ToName: "new"}, api.ErrInval)
	}
	// Out of itself.
	after := committed(v, func(l []slot.Slot) {
		l[7].Data = withoutEntry(l[7], "self")
		l[4].Cookie = 4
		l[4].Data = entryBytes(entry(4, deep, "new"))
	}, deep, e)
	want(t, v, call.Call{Op: call.Rename, At: deep, Name: "self", To: e, ToName: "new"}, reported(after, deep), after)
}

func TestRenameNeedsNoRoomForWhatItRemoves(t *testing.T) {
	// In a full directory, because one of its entries goes.
	v := with(sample(), func(l []slot.Slot) { l[7] = crowded(deep, 90, 32) })
	if after, r := ops.Do(v, call.Call{Op: call.Rename, At: deep, Name: "ac", To: deep, ToName: "new"}); r.Status != api.OK || len(after.Slots[7].Data) != 768 {
		t.Error(r)
	}
	if after, r := ops.Do(v, call.Call{Op: call.Rename, At: root, Name: "f", To: deep, ToName: "ab"}); r.Status != api.OK || len(after.Slots[7].Data) != 768 {
		t.Error(r)
	}
	wantError(t, v, call.Call{Op: call.Rename, At: deep, Name: "ac", To: deep, ToName: "longer"}, api.ErrNoSpc)
	wantError(t, v, call.Call{Op: call.Rename, At: root, Name: "f", To: deep, ToName: "new"}, api.ErrNoSpc)
	// The blocks of the thing that goes are free for the change.
	v = sample()
	v.Room = usedBySample
	v.Slots[2].Links = 1
	if after, r := ops.Do(v, call.Call{Op: call.Rename, At: root, Name: "blank", To: root, ToName: "f"}); r.Status != api.OK || ops.Used(after) != usedBySample-2 {
		t.Error(r, ops.Used(after))
	}
}

// P13.5

// isValid is the document's word of things.
func isValid(v ops.Things) bool {
	if len(v.Slots) != 24 {
		return false
	}
	for i, x := range v.Slots {
		if x.Ino != uint32(i) || slot.Check(x) != api.OK {
			return false
		}
	}
	return true
}

// someName is one of few, so that names meet; rarely it is no name.
func someName(seed *uint64) string {
	if below(seed, 30) == 0 {
		return oneOf(seed, badNames()...)
	}
	return oneOf(seed, "a", "b", "c", "d", "e", "f", "g", "new", "a longer name", strings.Repeat("z", 24))
}

// someHandle is mostly one that was reported.
func someHandle(seed *uint64, v ops.Things, told []api.Handle) api.Handle {
	switch below(seed, 12) {
	case 0:
		return api.Handle{Ino: noise(seed) % 26, Gen: noise(seed) % 4}
	case 1, 2, 3, 4:
		return oneOf(seed, told...)
	case 5, 6, 7:
		x := v.Slots[below(seed, 4)]
		return api.Handle{Ino: x.Ino, Gen: x.Gen}
	default:
		x := v.Slots[below(seed, 24)]
		return api.Handle{Ino: x.Ino, Gen: x.Gen}
	}
}

func someOffset(seed *uint64) uint64 {
	return oneOf(seed, 0, 0, 1, 1, 2, uint64(below(seed, 100)), uint64(below(seed, 770)), 768, 769, math.MaxUint64)
}

func someCall(seed *uint64, v ops.Things, told []api.Handle) call.Call {
	c := call.Call{
		Client: noise(seed) % 9, Xid: noise(seed), Op: 1 + noise(seed)%16,
		At: someHandle(seed, v, told), Name: someName(seed), To: someHandle(seed, v, told), ToName: someName(seed),
		Offset: someOffset(seed), Verf: uint64(below(seed, 3)), Count: oneOf(seed, 0, 1, 2, 3, noise(seed)%800, math.MaxUint32), Mode: noise(seed) % 1024,
	}
	if below(seed, 3) > 0 {
		c.Op = oneOf(seed, uint32(call.Create), call.Mkdir, call.Symlink, call.Link, call.Rename, call.Remove, call.Rmdir, call.Write, call.Readdir)
	}
	if n := oneOf(seed, 0, 1, 5, below(seed, 200), below(seed, 780)); n > 0 {
		c.Data = patterned(n)
	}
	if c.Op == call.Write && below(seed, 3) > 0 {
		c.Offset %= 400
	}
	return c
}

// starts are things that a run starts from.
func starts() []ops.Things {
	odd := with(sample(), func(l []slot.Slot) {
		l[7] = directory(deep, 8, math.MaxUint64-3, entry(1, d, "d"), entry(2, deep, "e"), entry(3, gone, "f"))
		l[1].Links = 3
		l[1].Cookie = math.MaxUint64 - 5
		l[0].Cookie = math.MaxUint64 - 20
		l[9].Gen = math.MaxUint32
		l[8].Links = math.MaxUint32 - 1
	})
	odd.Change = math.MaxUint64 - 20
	tight := sample()
	tight.Room = usedBySample + 2
	over := sample()
	over.Room = usedBySample - 3
	return []ops.Things{ops.Format(30), ops.Format(768), ops.Format(4), sample(), filled(sample(), 11, 12), odd, tight, over}
}

func TestManyCalls(t *testing.T) {
	statuses := map[[2]int]int{}
	seed := uint64(13)
	for run := range 160 {
		all := starts()
		v := all[run%len(all)]
		told := []api.Handle{root}
		for range 250 {
			c := someCall(&seed, v, told)
			kept := copyOf(v)
			after, r := ops.Do(v, c)
			again, r2 := ops.Do(v, c)
			wantAfter, wantReply := plainDo(kept, c)
			if !sameThings(after, wantAfter) || !sameReply(r, wantReply) {
				t.Fatalf("%+v: reply\n%+v, want\n%+v; things\n%+v, want\n%+v", c, r, wantReply, after, wantAfter)
			}
			if !sameThings(after, again) || !sameReply(r, r2) || !sameThings(v, kept) {
				t.Fatalf("%+v: not the same twice", c)
			}
			if !isValid(after) {
				if c.Op != call.Link || r.Attr.Links != 0 {
					t.Fatalf("%+v: things are not valid any more", c)
				}
				break
			}
			for _, h := range told {
				if !isThing(after, h) && isThing(v, h) && after.Slots[h.Ino].Kind != api.Free {
					t.Fatalf("%+v: %v became stale, and its thing is not gone", c, h)
				}
			}
			if r.Status == api.OK {
				told = append(told, r.At)
			}
			statuses[[2]int{int(c.Op), int(r.Status)}]++
			v = after
		}
	}
	// The runs have met each error that an operation may have.
	for op, l := range map[int][]api.Errno{
		call.Lookup:   {0, api.ErrStale, api.ErrNotDir, api.ErrName, api.ErrNoEnt},
		call.Setattr:  {0, api.ErrStale, api.ErrIsDir, api.ErrInval, api.ErrFBig, api.ErrNoSpc},
		call.Write:    {0, api.ErrStale, api.ErrIsDir, api.ErrInval, api.ErrFBig, api.ErrNoSpc},
		call.Readdir:  {0, api.ErrStale, api.ErrNotDir, api.ErrInval, api.ErrCookie},
		call.Create:   {0, api.ErrStale, api.ErrNotDir, api.ErrName, api.ErrInval, api.ErrExist, api.ErrNoSpc, api.ErrCookie},
		call.Mkdir:    {0, api.ErrStale, api.ErrNotDir, api.ErrName, api.ErrExist, api.ErrNoSpc, api.ErrCookie},
		call.Symlink:  {0, api.ErrStale, api.ErrNotDir, api.ErrName, api.ErrExist, api.ErrInval, api.ErrNoSpc, api.ErrCookie},
		call.Remove:   {0, api.ErrStale, api.ErrNotDir, api.ErrName, api.ErrNoEnt, api.ErrIsDir},
		call.Rmdir:    {0, api.ErrStale, api.ErrNotDir, api.ErrName, api.ErrNoEnt, api.ErrNotEmpty},
		call.Link:     {0, api.ErrStale, api.ErrIsDir, api.ErrNotDir, api.ErrName, api.ErrExist, api.ErrNoSpc, api.ErrCookie},
		call.Rename:   {0, api.ErrStale, api.ErrNotDir, api.ErrName, api.ErrNoEnt, api.ErrNotEmpty, api.ErrIsDir, api.ErrInval, api.ErrCookie},
		call.Readlink: {0, api.ErrStale, api.ErrInval},
	} {
		for _, status := range l {
			if statuses[[2]int{op, int(status)}] == 0 {
				t.Error("no run met", op, int(status))
			}
		}
	}
}

// isThing reports whether there is a thing of the handle.
func isThing(v ops.Things, h api.Handle) bool {
	return h.Ino < 24 && v.Slots[h.Ino].Kind != api.Free && v.Slots[h.Ino].Gen == h.Gen
}

func TestHandlesOfAFreedSlot(t *testing.T) {
	v := ops.Format(30)
	var told []api.Handle
	for range 5 {
		var r call.Reply
		v, r = ops.Do(v, call.Call{Op: call.Create, At: root, Name: "x"})
		told = append(told, r.At)
		for i, h := range told {
			_, r := ops.Do(v, call.Call{Op: call.Getattr, At: h})
			if fresh := i == len(told)-1; fresh && r.Status != api.OK || !fresh && r.Status != api.ErrStale {
				t.Error(told, i, r)
			}
		}
		v, _ = ops.Do(v, call.Call{Op: call.Remove, At: root, Name: "x"})
	}
	for i, h := range told {
		if h != (api.Handle{Ino: 1, Gen: uint32(i + 1)}) {
			t.Error(told)
		}
	}
}

func TestReadingADirectoryWhileItChanges(t *testing.T) {
	v := ops.Format(60)
	do := func(c call.Call) call.Reply {
		after, r := ops.Do(v, c)
		v = after
		if r.Status != api.OK {
			t.Fatal(c, r)
		}
		return r
	}
	for _, name := range []string{"a", "b", "c", "d", "e", "f"} {
		do(call.Call{Op: call.Create, At: root, Name: name})
	}
	var names []string
	at, verf := uint64(0), uint64(0)
	for step := 0; ; step++ {
		r := do(call.Call{Op: call.Readdir, At: root, Offset: at, Verf: verf, Count: 2})
		for _, x := range r.Entries {
			names = append(names, x.Name)
			at = x.Cookie
		}
		verf = r.Verf
		if r.Eof {
			break
		}
		if step == 0 { // an entry that was read goes, and one that was not; one comes back
			do(call.Call{Op: call.Remove, At: root, Name: "b"})
			do(call.Call{Op: call.Remove, At: root, Name: "d"})
			do(call.Call{Op: call.Create, At: root, Name: "b"})
		}
	}
	if got := strings.Join(names, ""); got != "abcefb" {
		t.Error(got)
	}
}
