package call_test

import (
	"bytes"
	"encoding/binary"
	"math"
	"slices"
	"strconv"
	"strings"
	"testing"

	"removalist/api"
	"removalist/call"
	"removalist/dir"
)

// noise is the next of a fixed sequence of numbers without a visible pattern.
func noise(x *uint64) uint32 {
	*x = *x*6364136223846793005 + 1442695040888963407
	return uint32(*x >> 32)
}

// noise64 is noise of twice the size.
func noise64(x *uint64) uint64 { return uint64(noise(x))<<32 | uint64(noise(x)) }

// below is noise from 0 to n-1.
func below(x *uint64, n int) int { return int(noise(x)) % n }

// noisy returns n bytes of noise.
func noisy(x *uint64, n int) []byte {
	b := make([]byte, n)
	for i := range b {
		b[i] = byte(noise(x))
	}
	return b
}

// entries returns count entries whose names have the given number of bytes, at least 3.
func entries(count, size int) []dir.Entry {
	var l []dir.Entry
	for i := range count {
		name := strings.Repeat("n", size-3) + strconv.Itoa(100+i)
		l = append(l, dir.Entry{Cookie: uint64(i)*3 + 1, Handle: api.Handle{Ino: uint32(i) + 7, Gen: uint32(i) + 9}, Name: name})
	}
	return l
}

func u32(b []byte, l ...uint32) []byte {
	for _, x := range l {
		b = binary.BigEndian.AppendUint32(b, x)
	}
	return b
}

func u64(b []byte, l ...uint64) []byte {
	for _, x := range l {
		b = binary.BigEndian.AppendUint64(b, x)
	}
	return b
}

func opaque[T string | []byte](b []byte, s T) []byte {
	b = append(u32(b, uint32(len(s))), s...)
	for len(b)%4 != 0 {
		b = append(b, 0)
	}
	return b
}

// plainCall encodes a call as the document words it, whether or not PutCall refuses it.
func plainCall(c call.Call) []byte {
	b := u32(nil, c.Client, c.Xid, c.Op, c.At.Ino, c.At.Gen)
	b = opaque(b, c.Name)
	b = u32(b, c.To.Ino, c.To.Gen)
	b = opaque(b, c.ToName)
	b = u64(b, c.Offset, c.Verf)
	b = u32(b, c.Count, c.Mode)
	return opaque(b, c.Data)
}

// plainEntries encodes entries as the document words it, whether or not they are valid.
func plainEntries(l []dir.Entry) []byte {
	var b []byte
	for _, e := range l {
		b = u64(b, e.Cookie)
		b = u32(b, e.Handle.Ino, e.Handle.Gen)
		b = opaque(b, e.Name)
	}
	return b
}

// plainReplyOf encodes a reply as the document words it, with these numbers as its Status and its Eof, and these bytes as its entries.
func plainReplyOf(r call.Reply, status uint32, listed []byte, eof uint32) []byte {
	b := u32(nil, r.Client, r.Xid, status, r.At.Ino, r.At.Gen, r.Attr.Kind, r.Attr.Mode, r.Attr.Links, r.Attr.Size)
	b = u64(b, r.Attr.Change)
	b = opaque(b, r.Data)
	b = opaque(b, listed)
	b = u32(b, eof)
	b = u64(b, r.Verf)
	return u32(b, r.Free)
}

// plainReply encodes a reply as the document words it, whether or not PutReply refuses it.
func plainReply(r call.Reply) []byte {
	eof := uint32(0)
	if r.Eof {
		eof = 1
	}
	return plainReplyOf(r, uint32(r.Status), plainEntries(r.Entries), eof)
}

func equalCalls(c, d call.Call) bool {
	return c.Client == d.Client && c.Xid == d.Xid && c.Op == d.Op && c.At == d.At && c.Name == d.Name && c.To == d.To && c.ToName == d.ToName &&
		c.Offset == d.Offset && c.Verf == d.Verf && c.Count == d.Count && c.Mode == d.Mode && bytes.Equal(c.Data, d.Data)
}

func equalReplies(r, s call.Reply) bool {
	return r.Client == s.Client && r.Xid == s.Xid && r.Status == s.Status && r.At == s.At && r.Attr == s.Attr &&
		bytes.Equal(r.Data, s.Data) && slices.Equal(r.Entries, s.Entries) && r.Eof == s.Eof && r.Verf == s.Verf && r.Free == s.Free
}

// fullCall returns a call whose every field is different.
func fullCall() call.Call {
	return call.Call{
		Client: 0x01020304, Xid: 0x05060708, Op: call.Rename, At: api.Handle{Ino: 0x090a0b0c, Gen: 0x0d0e0f10}, Name: "abcde",
		To: api.Handle{Ino: 0x11121314, Gen: 0x15161718}, ToName: "\xff.\x00/\n", Offset: 0x191a1b1c1d1e1f20, Verf: 0x2122232425262728,
		Count: 0x292a2b2c, Mode: 0x2d2e2f30, Data: []byte{0, 255, 7},
	}
}

// fullReply returns a reply whose every field is different.
func fullReply() call.Reply {
	return call.Reply{
		Client: 0x01020304, Xid: 0x05060708, Status: api.ErrStale, At: api.Handle{Ino: 0x090a0b0c, Gen: 0x0d0e0f10},
		Attr: call.Attr{Kind: 0x11121314, Mode: 0x15161718, Links: 0x191a1b1c, Size: 0x1d1e1f20, Change: 0x2122232425262728},
		Data: []byte{0, 255, 7, 8, 9}, Entries: []dir.Entry{{Cookie: 0x292a2b2c2d2e2f30, Handle: api.Handle{Ino: 0x31323334, Gen: 0x35363738}, Name: "ab"}},
		Eof: true, Verf: 0x393a3b3c3d3e3f40, Free: 0x41424344,
	}
}

// wantCall asks PutCall for b, and GetCall for c again.
func wantCall(t *testing.T, c call.Call, b []byte) {
	t.Helper()
	if got, e := call.PutCall(c); e != api.OK || !bytes.Equal(got, b) {
		t.Errorf("PutCall(%v) = %v, %d, want %v", c, got, e, b)
	}
	if got, e := call.GetCall(b); e != api.OK || !equalCalls(got, c) {
		t.Errorf("GetCall(%v) = %v, %d, want %v", b, got, e, c)
	}
}

func wantNoPutCall(t *testing.T, c call.Call) {
	t.Helper()
	if b, e := call.PutCall(c); e != api.ErrArg || len(b) != 0 {
		t.Errorf("PutCall(%v) = %v, %d, want nothing, %d", c, b, e, api.ErrArg)
	}
}

func wantNoGetCall(t *testing.T, b []byte, want api.Errno) {
	t.Helper()
	if c, e := call.GetCall(b); e != want || !equalCalls(c, call.Call{}) {
		t.Errorf("GetCall(%v) = %v, %d, want nothing, %d", b, c, e, want)
	}
}

// wantReply asks PutReply for b, and GetReply for r again.
func wantReply(t *testing.T, r call.Reply, b []byte) {
	t.Helper()
	if got, e := call.PutReply(r); e != api.OK || !bytes.Equal(got, b) {
		t.Errorf("PutReply(%v) = %v, %d, want %v", r, got, e, b)
	}
	if got, e := call.GetReply(b); e != api.OK || !equalReplies(got, r) {
		t.Errorf("GetReply(%v) = %v, %d, want %v", b, got, e, r)
	}
}

func wantNoPutReply(t *testing.T, r call.Reply, want api.Errno) {
	t.Helper()
	if b, e := call.PutReply(r); e != want || len(b) != 0 {
		t.Errorf("PutReply(%v) = %v, %d, want nothing, %d", r, b, e, want)
	}
}

func wantNoGetReply(t *testing.T, b []byte, want api.Errno) {
	t.Helper()
	if r, e := call.GetReply(b); e != want || !equalReplies(r, call.Reply{}) {
		t.Errorf("GetReply(%v) = %v, %d, want nothing, %d", b, r, e, want)
	}
}

// P9.1

func TestNumbersOfOperations(t *testing.T) {
	ops := []int{
		call.Lookup, call.Getattr, call.Setattr, call.Read, call.Write, call.Create, call.Mkdir, call.Symlink,
		call.Readlink, call.Remove, call.Rmdir, call.Rename, call.Link, call.Readdir, call.Fsstat, call.Commit,
	}
	for i, op := range ops {
		if op != i+1 {
			t.Errorf("operation %d of the document is %d", i+1, op)
		}
	}
	// They fit in numbers of any type.
	if uint32(call.Commit) != 16 || byte(call.Lookup) != 1 || uint64(call.Rename) != 12 {
		t.Error("numbers")
	}
}

func TestChanges(t *testing.T) {
	changes := []uint32{3, 5, 6, 7, 8, 10, 11, 12, 13} // Setattr, Write, Create, Mkdir, Symlink, Remove, Rmdir, Rename, Link
	for op := range uint32(5000) {
		if got := call.Changes(op); got != slices.Contains(changes, op) {
			t.Errorf("Changes(%d) = %t", op, got)
		}
	}
	for bit := range 32 {
		for op := range uint32(32) {
			if high := 1<<bit | op; high > 16 && call.Changes(high) {
				t.Errorf("Changes(%d)", high)
			}
			if call.Changes(math.MaxUint32-op) || call.Changes(math.MaxInt32-op) {
				t.Errorf("Changes of a number from %d on", math.MaxInt32-op)
			}
		}
	}
}

func TestPutCallEveryField(t *testing.T) {
	want := []byte{
		1, 2, 3, 4, 5, 6, 7, 8, 0, 0, 0, 12, 9, 10, 11, 12, 13, 14, 15, 16, 0, 0, 0, 5, 'a', 'b', 'c', 'd', 'e', 0, 0, 0,
		17, 18, 19, 20, 21, 22, 23, 24, 0, 0, 0, 5, 255, '.', 0, '/', '\n', 0, 0, 0, 25, 26, 27, 28, 29, 30, 31, 32, 33, 34, 35, 36, 37, 38, 39, 40,
		41, 42, 43, 44, 45, 46, 47, 48, 0, 0, 0, 3, 0, 255, 7, 0,
	}
	wantCall(t, fullCall(), want)
	if !bytes.Equal(plainCall(fullCall()), want) {
		t.Error("plainCall is wrong")
	}
}

func TestPutCallEachFieldAlone(t *testing.T) {
	for _, x := range []uint32{0, 1, 255, 256, 1 << 16, 1<<31 - 1, 1 << 31, math.MaxUint32} {
		for _, c := range []call.Call{
			{Client: x}, {Xid: x}, {At: api.Handle{Ino: x}}, {At: api.Handle{Gen: x}}, {To: api.Handle{Ino: x}}, {To: api.Handle{Gen: x}},
			{Count: x}, {Mode: x}, {Offset: uint64(x)}, {Verf: uint64(x)}, {Offset: uint64(x) << 32}, {Verf: uint64(x) << 32},
		} {
			c.Op = call.Getattr
			wantCall(t, c, plainCall(c))
			if len(plainCall(c)) != 64 {
				t.Errorf("%d bytes", len(plainCall(c)))
			}
		}
	}
}

func TestPutCallOp(t *testing.T) {
	for op := range uint32(2000) {
		c := call.Call{Op: op}
		if op >= 1 && op <= 16 {
			wantCall(t, c, plainCall(c))
		} else {
			wantNoPutCall(t, c)
		}
	}
	for bit := 5; bit < 32; bit++ {
		for op := range uint32(20) {
			wantNoPutCall(t, call.Call{Op: 1<<bit | op})
			wantNoPutCall(t, call.Call{Op: math.MaxUint32 - op})
		}
	}
}

func TestPutCallLengths(t *testing.T) {
	for n := range 300 {
		for _, one := range []string{"a", "\x00", "/", "\xff"} { // names are not looked at, only their lengths
			s := strings.Repeat(one, n)
			for _, c := range []call.Call{{Op: call.Lookup, Name: s}, {Op: call.Link, ToName: s}, {Op: call.Rename, Name: s, ToName: s, Data: []byte(s)}} {
				if n <= 64 {
					wantCall(t, c, plainCall(c))
				} else {
					wantNoPutCall(t, c)
				}
			}
		}
	}
	wantNoPutCall(t, call.Call{Op: call.Lookup, Name: strings.Repeat("é", 33)}) // bytes count, not letters
	for n := range 1300 {
		c := call.Call{Op: call.Write, Data: bytes.Repeat([]byte{7}, n)}
		if n <= 1024 {
			wantCall(t, c, plainCall(c))
		} else {
			wantNoPutCall(t, c)
		}
	}
	wantNoPutCall(t, call.Call{Op: call.Write, Data: make([]byte, 1<<16)})
	wantNoPutCall(t, call.Call{Op: call.Lookup, Name: strings.Repeat("a", 1<<16)})
	wantNoPutCall(t, call.Call{Op: call.Lookup, ToName: strings.Repeat("a", 1<<16)})
	greatest := call.Call{Op: call.Commit, Name: strings.Repeat("a", 64), ToName: strings.Repeat("b", 64), Data: make([]byte, 1024)}
	wantCall(t, greatest, plainCall(greatest))
	greatest.Op = 17
	wantNoPutCall(t, greatest)
}

func TestPutCallOfNothing(t *testing.T) {
	wantNoPutCall(t, call.Call{})
	for _, data := range [][]byte{nil, {}, []byte("abc")[:0]} {
		c := call.Call{Op: call.Getattr, Data: data}
		want := make([]byte, 64)
		want[11] = 2
		wantCall(t, c, want)
	}
}

func TestPutCallKeepsItsArgument(t *testing.T) {
	data := []byte("abcdef")
	c := call.Call{Op: call.Write, Name: "n", Data: data[:3]}
	b, _ := call.PutCall(c)
	want := bytes.Clone(b)
	for i := range b {
		b[i]++
	}
	if string(data) != "abcdef" {
		t.Errorf("Data is %q now", data)
	}
	b, _ = call.PutCall(c)
	copy(data, "zzzzzz")
	if !bytes.Equal(b, want) {
		t.Errorf("%v, want %v", b, want)
	}
}

// P9.2

func TestGetCallTooShort(t *testing.T) {
	for n := range 6 {
		c := fullCall()
		c.Name, c.ToName, c.Data = c.Name[:n%5], c.ToName[n%3:], bytes.Repeat(c.Data, n)
		for _, op := range []uint32{call.Rename, 0, 17} { // an Op that is none comes later
			c.Op = op
			b := plainCall(c)
			for size := range len(b) {
				wantNoGetCall(t, b[:size], api.ErrShort)
			}
		}
	}
	wantNoGetCall(t, nil, api.ErrShort)
	wantNoGetCall(t, []byte{}, api.ErrShort)
}

func TestGetCallTooBig(t *testing.T) {
	first := call.Call{Op: call.Rename, Name: strings.Repeat("a", 64), ToName: strings.Repeat("b", 64), Data: make([]byte, 1024)}
	b := plainCall(first)
	wantCall(t, first, b)
	at := []int{20, 20 + 4 + 64 + 8, len(b) - 1024 - 4} // where the lengths are
	for i, most := range []uint32{64, 64, 1024} {
		for _, length := range []uint32{most + 1, most + 2, most + 4, 2000, 1 << 16, math.MaxInt32, 1 << 31, math.MaxUint32} {
			for _, op := range []uint32{call.Rename, 0, 17} {
				wrong := bytes.Clone(b)
				binary.BigEndian.PutUint32(wrong[8:], op)
				binary.BigEndian.PutUint32(wrong[at[i]:], length)
				for range 8 { // bytes that are missing or left do not change it
					wantNoGetCall(t, wrong, api.ErrBig)
					wrong = append(wrong, 1)
				}
				wantNoGetCall(t, wrong[:at[i]+4], api.ErrBig)
				wantNoGetCall(t, wrong[:at[i]+3], api.ErrShort)
			}
		}
	}
	for _, c := range []call.Call{
		{Op: call.Lookup, Name: strings.Repeat("a", 65)}, {Op: call.Lookup, ToName: strings.Repeat("a", 65)}, {Op: call.Write, Data: make([]byte, 1025)},
		{Name: strings.Repeat("a", 68)}, {ToName: strings.Repeat("a", 68)}, {Data: make([]byte, 1028)},
	} {
		wantNoGetCall(t, plainCall(c), api.ErrBig)
		wantNoGetCall(t, append(plainCall(c), 0), api.ErrBig)
	}
}

func TestGetCallPadding(t *testing.T) {
	c := call.Call{Op: call.Rename, Name: "a", ToName: "bc", Data: []byte("def")}
	b := plainCall(c)
	wantCall(t, c, b)
	for _, at := range []int{25, 26, 27, 42, 43, len(b) - 1} { // behind a, bc and def
		for _, x := range []byte{1, 128, 255} {
			for _, op := range []byte{call.Rename, 0, 17} {
				wrong := bytes.Clone(b)
				wrong[at], wrong[11] = x, op
				wantNoGetCall(t, wrong, api.ErrForm)
				wantNoGetCall(t, append(wrong, 0), api.ErrForm) // sooner than bytes that are left
			}
		}
	}
	// The first error counts: a malformed Name, and a ToName that is too big; and the other way round.
	wrong := bytes.Clone(b)
	wrong[27] = 1
	wrong[37] = 1
	wantNoGetCall(t, wrong, api.ErrForm)
	wrong = bytes.Clone(b)
	wrong[22] = 1
	wrong[43] = 1
	wantNoGetCall(t, wrong, api.ErrBig)
}

func TestGetCallLeft(t *testing.T) {
	for _, op := range []uint32{1, 12, 16, 0, 17, math.MaxUint32} {
		c := fullCall()
		c.Op = op
		for _, x := range []byte{0, 1, 255} {
			b := plainCall(c)
			for range 70 {
				b = append(b, x)
				wantNoGetCall(t, b, api.ErrLeft)
			}
		}
		wantNoGetCall(t, append(plainCall(c), plainCall(c)...), api.ErrLeft)
	}
}

func TestGetCallOp(t *testing.T) {
	c := fullCall()
	for op := range uint32(2000) {
		c.Op = op
		if op >= 1 && op <= 16 {
			wantCall(t, c, plainCall(c))
		} else {
			wantNoGetCall(t, plainCall(c), api.ErrForm)
		}
	}
	for bit := 5; bit < 32; bit++ {
		for op := range uint32(20) {
			c.Op = 1<<bit | op
			wantNoGetCall(t, plainCall(c), api.ErrForm)
			c.Op = math.MaxUint32 - op
			wantNoGetCall(t, plainCall(c), api.ErrForm)
		}
	}
	wantNoGetCall(t, make([]byte, 64), api.ErrForm)
}

func TestGetCallIsNewMemory(t *testing.T) {
	want := fullCall()
	b := plainCall(want)
	kept := bytes.Clone(b)
	c, _ := call.GetCall(b)
	c.Data[0]++
	c.Data = append(c.Data, 1, 2, 3, 4)
	if !bytes.Equal(b, kept) {
		t.Errorf("the bytes are %v now", b)
	}
	c, _ = call.GetCall(b)
	clear(b)
	if !equalCalls(c, want) {
		t.Errorf("%v, want %v", c, want)
	}
}

// P9.3

func TestPutReplyEveryField(t *testing.T) {
	want := []byte{
		1, 2, 3, 4, 5, 6, 7, 8, 0, 0, 0, 69, 9, 10, 11, 12, 13, 14, 15, 16, 17, 18, 19, 20, 21, 22, 23, 24, 25, 26, 27, 28, 29, 30, 31, 32,
		33, 34, 35, 36, 37, 38, 39, 40, 0, 0, 0, 5, 0, 255, 7, 8, 9, 0, 0, 0,
		0, 0, 0, 24, 41, 42, 43, 44, 45, 46, 47, 48, 49, 50, 51, 52, 53, 54, 55, 56, 0, 0, 0, 2, 'a', 'b', 0, 0,
		0, 0, 0, 1, 57, 58, 59, 60, 61, 62, 63, 64, 65, 66, 67, 68,
	}
	wantReply(t, fullReply(), want)
	if !bytes.Equal(plainReply(fullReply()), want) {
		t.Error("plainReply is wrong")
	}
}

func TestPutReplyEachFieldAlone(t *testing.T) {
	for _, x := range []uint32{0, 1, 255, 256, 1 << 16, 1<<31 - 1, 1 << 31, math.MaxUint32} {
		for _, r := range []call.Reply{
			{Client: x}, {Xid: x}, {At: api.Handle{Ino: x}}, {At: api.Handle{Gen: x}}, {Free: x}, {Eof: x > 1}, {Verf: uint64(x)}, {Verf: uint64(x) << 32},
			{Attr: call.Attr{Kind: x}}, {Attr: call.Attr{Mode: x}}, {Attr: call.Attr{Links: x}}, {Attr: call.Attr{Size: x}},
			{Attr: call.Attr{Change: uint64(x)}}, {Attr: call.Attr{Change: uint64(x) << 32}},
		} {
			wantReply(t, r, plainReply(r))
			if len(plainReply(r)) != 68 {
				t.Errorf("%d bytes", len(plainReply(r)))
			}
		}
	}
}

func TestPutReplyStatus(t *testing.T) {
	for status := api.Errno(-3000); status < 3000; status++ {
		r := call.Reply{Client: 1, Status: status}
		if status == 0 || status >= 60 && status <= 71 {
			wantReply(t, r, plainReply(r))
		} else {
			wantNoPutReply(t, r, api.ErrArg)
		}
	}
	for bit := 12; bit < strconv.IntSize; bit++ { // with the lowest bits of one that is permitted
		for status := range 80 {
			wantNoPutReply(t, call.Reply{Status: api.Errno(uint64(1)<<bit | uint64(status))}, api.ErrArg)
			wantNoPutReply(t, call.Reply{Status: -api.Errno(uint64(1)<<bit | uint64(status))}, api.ErrArg)
		}
	}
}

func TestPutReplyDataLengths(t *testing.T) {
	for n := range 1300 {
		r := call.Reply{Data: bytes.Repeat([]byte{9}, n)}
		if n <= 1024 {
			wantReply(t, r, plainReply(r))
		} else {
			wantNoPutReply(t, r, api.ErrArg)
		}
	}
	wantNoPutReply(t, call.Reply{Data: make([]byte, 1<<16)}, api.ErrArg)
}

func TestPutReplyEntries(t *testing.T) {
	for count := range 60 {
		for _, size := range []int{3, 4, 5, 24} {
			r := call.Reply{Entries: entries(count, size)}
			if count <= 24 {
				wantReply(t, r, plainReply(r))
			} else {
				wantNoPutReply(t, r, api.ErrArg)
			}
		}
	}
	for _, empty := range [][]dir.Entry{nil, {}, entries(3, 3)[:0]} {
		wantReply(t, call.Reply{Entries: empty}, make([]byte, 68))
	}
	greatest := call.Reply{Status: api.ErrMoved, Data: make([]byte, 1024), Entries: entries(24, 24), Eof: true}
	wantReply(t, greatest, plainReply(greatest))
}

// wrongEntries returns lists that are not valid, all of at most 24 entries.
func wrongEntries() [][]dir.Entry {
	names := []string{"", ".", "..", "a/b", "\x00"}
	var l [][]dir.Entry
	for _, name := range names {
		for at := range 3 {
			wrong := entries(3, 4)
			wrong[at].Name = name
			l = append(l, wrong)
		}
	}
	twice, same, zero, down := entries(24, 24), entries(24, 24), entries(2, 3), entries(24, 3)
	twice[23].Name = twice[0].Name
	same[23].Cookie = same[22].Cookie
	zero[0].Cookie = 0
	down[5].Cookie, down[6].Cookie = down[6].Cookie, down[5].Cookie
	return append(l, twice, same, zero, down)
}

func TestPutReplyOrderOfErrors(t *testing.T) {
	long := entries(2, 4)
	long[1].Name = strings.Repeat("a", 25)
	for _, l := range append(wrongEntries(), long) {
		wantNoPutReply(t, call.Reply{Entries: l}, api.ErrForm)
		wantNoPutReply(t, call.Reply{Status: api.ErrNoEnt, Data: make([]byte, 1024), Entries: l}, api.ErrForm)
		for _, r := range []call.Reply{{Status: 1}, {Status: 59}, {Status: 72}, {Status: -1}, {Data: make([]byte, 1025)}} {
			r.Entries = l
			wantNoPutReply(t, r, api.ErrArg)
		}
	}
	many := entries(25, 4)
	many[24].Name = many[0].Name
	wantNoPutReply(t, call.Reply{Entries: many}, api.ErrArg)
	wantNoPutReply(t, call.Reply{Entries: make([]dir.Entry, 25)}, api.ErrArg)
	wantNoPutReply(t, call.Reply{Entries: make([]dir.Entry, 24)}, api.ErrForm)
}

func TestPutReplyKeepsItsArguments(t *testing.T) {
	r := fullReply()
	b, _ := call.PutReply(r)
	for i := range b {
		b[i]++
	}
	if !equalReplies(r, fullReply()) {
		t.Errorf("%v is changed", r)
	}
	b, _ = call.PutReply(r)
	clear(r.Data)
	r.Entries[0].Cookie = 1
	if !bytes.Equal(b, plainReply(fullReply())) {
		t.Errorf("%v is changed", b)
	}
}

// P9.4

func TestGetReplyTooShort(t *testing.T) {
	for n := range 6 {
		r := fullReply()
		r.Data, r.Entries = r.Data[:n%5], entries(n, n+3)
		for _, status := range []uint32{0, 71, 1, 72} { // a Status that is none comes later
			b := plainReplyOf(r, status, plainEntries(r.Entries), 1)
			for size := range len(b) {
				wantNoGetReply(t, b[:size], api.ErrShort)
			}
		}
	}
	wantNoGetReply(t, nil, api.ErrShort)
	wantNoGetReply(t, []byte{}, api.ErrShort)
}

func TestGetReplyTooBig(t *testing.T) {
	first := call.Reply{Data: make([]byte, 1024), Entries: entries(24, 24)}
	b := plainReply(first)
	wantReply(t, first, b)
	at := []int{44, 44 + 4 + 1024} // where the lengths are
	for i, most := range []uint32{1024, 2048} {
		for _, length := range []uint32{most + 1, most + 2, most + 4, 4000, 1 << 16, math.MaxInt32, 1 << 31, math.MaxUint32} {
			for _, status := range []uint32{0, 60, 59, 72} {
				wrong := bytes.Clone(b)
				binary.BigEndian.PutUint32(wrong[8:], status)
				binary.BigEndian.PutUint32(wrong[at[i]:], length)
				for range 8 { // bytes that are missing or left do not change it
					wantNoGetReply(t, wrong, api.ErrBig)
					wrong = append(wrong, 1)
				}
				wantNoGetReply(t, wrong[:at[i]+4], api.ErrBig)
				wantNoGetReply(t, wrong[:at[i]+3], api.ErrShort)
			}
		}
	}
	for n := 1025; n < 1040; n++ {
		wantNoGetReply(t, plainReply(call.Reply{Data: make([]byte, n)}), api.ErrBig)
	}
	wantNoGetReply(t, plainReply(call.Reply{Status: 1, Data: make([]byte, 1025), Entries: entries(25, 3)}), api.ErrBig)
}

func TestGetReplyBytesOfEntries(t *testing.T) {
	const one = 20 + 24 // bytes of an entry with a name of 24
	for n := range 2200 {
		listed := plainEntries(entries(n/one+1, 24))[:n]
		want := api.ErrShort // an entry that ends too early, not the reply
		switch {
		case n > 2048:
			want = api.ErrBig
		case n%one == 0 && n <= 24*one:
			want = api.OK
		case n%one == 0:
			want = api.ErrForm
		}
		b := plainReplyOf(call.Reply{}, 0, listed, 0)
		if want != api.OK {
			wantNoGetReply(t, b, want)
			continue
		}
		if r, e := call.GetReply(b); e != api.OK || !slices.Equal(r.Entries, entries(n/one, 24)) {
			t.Errorf("%v, %d of %d bytes of entries", r, e, n)
		}
	}
}

func TestGetReplyPadding(t *testing.T) {
	r := call.Reply{Data: []byte("a")}
	b := plainReply(r)
	wantReply(t, r, b)
	for at := 49; at < 52; at++ { // behind a
		for _, x := range []byte{1, 128, 255} {
			wrong := bytes.Clone(b)
			wrong[at] = x
			wantNoGetReply(t, wrong, api.ErrForm)
			wantNoGetReply(t, append(wrong, 0), api.ErrForm) // sooner than bytes that are left
			wantNoGetReply(t, wrong[:len(wrong)-1], api.ErrForm)
		}
	}
	// Behind the entries, whose bytes need not end at a whole unit.
	for n := 1; n < 4; n++ {
		b := plainReplyOf(call.Reply{}, 0, plainEntries(entries(1, 24))[:40+n], 0)
		wantNoGetReply(t, b, api.ErrShort) // from dir.Get
		wrong := bytes.Clone(b)
		wrong[len(wrong)-17] = 1
		wantNoGetReply(t, wrong, api.ErrForm) // from xdr, sooner
		wantNoGetReply(t, append(wrong, 0), api.ErrForm)
	}
}

func TestGetReplyEof(t *testing.T) {
	full := fullReply()
	for _, x := range []uint32{0, 1, 2, 3, 255, 256, 257, 1 << 16, 1 << 24, 1<<24 + 1, 1 << 31, math.MaxUint32} {
		b := plainReplyOf(full, uint32(full.Status), plainEntries(full.Entries), x)
		if x < 2 {
			full.Eof = x == 1
			wantReply(t, full, b)
			continue
		}
		wantNoGetReply(t, b, api.ErrForm)
		wantNoGetReply(t, append(b, 0), api.ErrForm)          // sooner than bytes that are left
		wantNoGetReply(t, b[:len(b)-1], api.ErrForm)          // and than bytes that are missing behind it
		wantNoGetReply(t, b[:len(b)-13], api.ErrShort)        // but not within it
		b = plainReplyOf(call.Reply{}, 0, make([]byte, 5), x) // sooner than dir.Get, which returns ErrShort
		wantNoGetReply(t, b, api.ErrForm)
	}
}

func TestGetReplyLeft(t *testing.T) {
	for _, status := range []uint32{0, 60, 71, 1, 59, 72, math.MaxUint32} {
		for _, listed := range [][]byte{nil, plainEntries(entries(2, 9)), plainEntries(entries(30, 9)), make([]byte, 5), make([]byte, 20)} {
			for _, x := range []byte{0, 1, 255} {
				b := plainReplyOf(fullReply(), status, listed, 1)
				for range 70 {
					b = append(b, x)
					wantNoGetReply(t, b, api.ErrLeft)
				}
			}
		}
	}
	wantNoGetReply(t, append(plainReply(fullReply()), plainReply(fullReply())...), api.ErrLeft)
}

func TestGetReplyErrorOfEntries(t *testing.T) {
	long := entries(2, 4)
	long[1].Name = strings.Repeat("a", 25)
	many := append(entries(30, 4), dir.Entry{Cookie: 1000, Name: strings.Repeat("a", 28)})
	for _, status := range []uint32{0, 60, 71, 1, 59, 72, math.MaxUint32} { // a Status that is none comes later
		for _, l := range wrongEntries() {
			wantNoGetReply(t, plainReplyOf(fullReply(), status, plainEntries(l), 0), api.ErrForm)
		}
		for _, l := range [][]dir.Entry{long, many} { // and so do too many entries
			wantNoGetReply(t, plainReplyOf(fullReply(), status, plainEntries(l), 0), api.ErrBig)
		}
		for n := 1; n < 20; n++ {
			wantNoGetReply(t, plainReplyOf(fullReply(), status, make([]byte, n), 0), api.ErrShort)
			wantNoGetReply(t, plainReplyOf(fullReply(), status, append(plainEntries(entries(40, 7)), make([]byte, n)...), 0), api.ErrShort)
		}
	}
}

func TestGetReplyCountOfEntries(t *testing.T) {
	for count := range 80 {
		r := fullReply()
		r.Entries = entries(count, 3)
		if count <= 24 {
			wantReply(t, r, plainReply(r))
		} else {
			wantNoGetReply(t, plainReply(r), api.ErrForm)
		}
	}
}

func TestGetReplyStatus(t *testing.T) {
	full := fullReply()
	for status := range uint32(3000) {
		full.Status = api.Errno(status)
		b := plainReply(full)
		if status == 0 || status >= 60 && status <= 71 {
			wantReply(t, full, b)
		} else {
			wantNoGetReply(t, b, api.ErrForm)
		}
	}
	for bit := 12; bit < 32; bit++ {
		for status := range uint32(80) {
			wantNoGetReply(t, plainReplyOf(full, 1<<bit|status, nil, 0), api.ErrForm)
			wantNoGetReply(t, plainReplyOf(full, math.MaxUint32-status, nil, 0), api.ErrForm)
		}
	}
}

func TestGetReplyIsNewMemory(t *testing.T) {
	b := plainReply(fullReply())
	kept := bytes.Clone(b)
	r, _ := call.GetReply(b)
	clear(r.Data)
	r.Data = append(r.Data, 1, 2, 3, 4)
	r.Entries[0].Cookie = 0
	if !bytes.Equal(b, kept) {
		t.Errorf("the bytes are %v now", b)
	}
	r, _ = call.GetReply(b)
	clear(b)
	if !equalReplies(r, fullReply()) {
		t.Errorf("%v, want %v", r, fullReply())
	}
}

// P9.5

func randomCall(seed *uint64) call.Call {
	return call.Call{
		Client: noise(seed), Xid: noise(seed), Op: uint32(below(seed, 16)) + 1, At: api.Handle{Ino: noise(seed), Gen: noise(seed)},
		Name: string(noisy(seed, below(seed, 65))), To: api.Handle{Ino: noise(seed), Gen: noise(seed)}, ToName: string(noisy(seed, below(seed, 65))),
		Offset: noise64(seed), Verf: noise64(seed), Count: noise(seed), Mode: noise(seed), Data: noisy(seed, below(seed, 1025)),
	}
}

func randomReply(seed *uint64) call.Reply {
	r := call.Reply{
		Client: noise(seed), Xid: noise(seed), Status: api.Errno(below(seed, 13)), At: api.Handle{Ino: noise(seed), Gen: noise(seed)},
		Attr: call.Attr{Kind: noise(seed), Mode: noise(seed), Links: noise(seed), Size: noise(seed), Change: noise64(seed)},
		Data: noisy(seed, below(seed, 1025)), Entries: entries(below(seed, 25), 3+below(seed, 22)), Eof: noise(seed)%2 == 0, Verf: noise64(seed), Free: noise(seed),
	}
	if r.Status != 0 {
		r.Status += 59
	}
	return r
}

func TestRandomRoundTrips(t *testing.T) {
	seed := uint64(1)
	for range 3000 {
		c := randomCall(&seed)
		wantCall(t, c, plainCall(c))
		r := randomReply(&seed)
		wantReply(t, r, plainReply(r))
	}
}

// TestDamagedBytes changes encodings at random: what is not refused is encoded as the same bytes.
func TestDamagedBytes(t *testing.T) {
	seed := uint64(2)
	read, refused := 0, 0
	for range 20000 {
		c, r := randomCall(&seed), randomReply(&seed)
		c.Data, r.Data = c.Data[:len(c.Data)/64], r.Data[:len(r.Data)/64]
		one, other := plainCall(c), plainReply(r)
		for range 1 + below(&seed, 2) {
			one[below(&seed, len(one))] ^= 1 << below(&seed, 8)
			other[below(&seed, len(other))] ^= 1 << below(&seed, 8)
		}
		if got, e := call.GetCall(one); e == api.OK {
			read++
			wantCall(t, got, one)
		} else {
			refused++
			wantNoGetCall(t, one, e)
		}
		if got, e := call.GetReply(other); e == api.OK {
			read++
			wantReply(t, got, other)
		} else {
			refused++
			wantNoGetReply(t, other, e)
		}
	}
	if read < 1000 || refused < 1000 {
		t.Errorf("%d were read, %d refused", read, refused)
	}
}
