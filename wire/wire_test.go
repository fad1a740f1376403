package wire_test

import (
	"bytes"
	"encoding/binary"
	"math"
	"slices"
	"strconv"
	"strings"
	"testing"

	"removalist/api"
	"removalist/call"
	"removalist/dir"
	"removalist/wire"
)

// noise is the next of a fixed sequence of numbers without a visible pattern.
func noise(x *uint64) uint32 {
	*x = *x*6364136223846793005 + 1442695040888963407
	return uint32(*x >> 32)
}

// noise64 is noise of twice the size.
func noise64(x *uint64) uint64 { return uint64(noise(x))<<32 | uint64(noise(x)) }

// below is noise from 0 to n-1.
func below(x *uint64, n int) int { return int(noise(x) % uint32(n)) }

// noisy returns n bytes of noise.
func noisy(x *uint64, n int) []byte {
	b := make([]byte, n)
	for i := range b {
		b[i] = byte(noise(x))
	}
	return b
}

// sealed appends the checksum, computed bit by bit.
func sealed(b []byte) []byte {
	x := uint32(math.MaxUint32)
	for _, c := range b {
		for i := 7; i >= 0; i-- {
			out := x>>31 ^ uint32(c>>i&1)
			x = x<<1 ^ 0x04c11db7*out
		}
	}
	return binary.BigEndian.AppendUint32(bytes.Clone(b), ^x)
}

func u32(b []byte, l ...uint32) []byte {
	for _, x := range l {
		b = binary.BigEndian.AppendUint32(b, x)
	}
	return b
}

func opaque(b, s []byte) []byte {
	b = append(u32(b, uint32(len(s))), s...)
	for len(b)%4 != 0 {
		b = append(b, 0)
	}
	return b
}

// framed is the encoding of a message of any kind, and with any content.
func framed(kind uint32, content []byte) []byte { return sealed(opaque(u32(nil, kind), content)) }

// plainCtl encodes a message of a move as the document words it, whether or not Put refuses it.
func plainCtl(c wire.Ctl) []byte {
	b := u32(nil, c.Kind)
	b = binary.BigEndian.AppendUint64(b, c.Epoch)
	b = binary.BigEndian.AppendUint64(b, c.Seq)
	b = u32(b, c.At)
	return opaque(b, c.Data)
}

// plain is P16.1 in its own words, with what package call returns.
func plain(m wire.Msg) ([]byte, api.Errno) {
	var content []byte
	var e api.Errno
	switch m.Kind {
	case 1:
		content, e = call.PutCall(m.Call)
	case 2:
		content, e = call.PutReply(m.Reply)
	case 3:
		if m.Ctl.Kind == 0 || m.Ctl.Kind > 7 || len(m.Ctl.Data) > 1024 {
			return nil, api.ErrArg
		}
		content = plainCtl(m.Ctl)
	default:
		return nil, api.ErrArg
	}
	if e != api.OK {
		return nil, e
	}
	return framed(m.Kind, content), api.OK
}

// cut reads an Opaque of at most most bytes from the front of b; if e is not OK, that is the error of xdr.
func cut(b []byte, most uint32) (body, rest []byte, e api.Errno) {
	if len(b) < 4 {
		return nil, nil, api.ErrShort
	}
	size := binary.BigEndian.Uint32(b)
	if size > most {
		return nil, nil, api.ErrBig
	}
	whole := 4 + (int(size)+3)/4*4
	if len(b) < whole {
		return nil, nil, api.ErrShort
	}
	body, pad := b[4:4+size], b[4+size:whole]
	if !bytes.Equal(pad, make([]byte, len(pad))) {
		return nil, nil, api.ErrForm
	}
	return body, b[whole:], api.OK
}

// plainGet is P16.2 in its own words, with what package call returns.
func plainGet(b []byte) (wire.Msg, api.Errno) {
	if len(b) < 4 || !bytes.Equal(sealed(b[:len(b)-4]), b) {
		return wire.Msg{}, api.ErrSum
	}
	b = b[:len(b)-4]
	if len(b) < 4 {
		return wire.Msg{}, api.ErrShort
	}
	m := wire.Msg{Kind: binary.BigEndian.Uint32(b)}
	content, rest, e := cut(b[4:], 4096)
	if e == api.OK && len(rest) > 0 {
		e = api.ErrLeft
	}
	if e == api.OK {
		switch m.Kind {
		case 1:
			m.Call, e = call.GetCall(content)
		case 2:
			m.Reply, e = call.GetReply(content)
		case 3:
			m.Ctl, e = plainGetCtl(content)
		default:
			e = api.ErrForm
		}
	}
	if e != api.OK {
		return wire.Msg{}, e
	}
	return m, api.OK
}

func plainGetCtl(b []byte) (wire.Ctl, api.Errno) {
	if len(b) < 24 {
		return wire.Ctl{}, api.ErrShort
	}
	c := wire.Ctl{
		Kind: binary.BigEndian.Uint32(b), Epoch: binary.BigEndian.Uint64(b[4:]),
		Seq: binary.BigEndian.Uint64(b[12:]), At: binary.BigEndian.Uint32(b[20:]),
	}
	data, rest, e := cut(b[24:], 1024)
	switch {
	case e != api.OK:
		return wire.Ctl{}, e
	case len(rest) > 0:
		return wire.Ctl{}, api.ErrLeft
	case c.Kind == 0 || c.Kind > 7:
		return wire.Ctl{}, api.ErrForm
	}
	c.Data = data
	return c, api.OK
}

func sameCalls(c, d call.Call) bool {
	return c.Client == d.Client && c.Xid == d.Xid && c.Op == d.Op && c.At == d.At && c.Name == d.Name && c.To == d.To && c.ToName == d.ToName &&
		c.Offset == d.Offset && c.Verf == d.Verf && c.Count == d.Count && c.Mode == d.Mode && bytes.Equal(c.Data, d.Data)
}

func sameReplies(r, s call.Reply) bool {
	return r.Client == s.Client && r.Xid == s.Xid && r.Status == s.Status && r.At == s.At && r.Attr == s.Attr &&
		bytes.Equal(r.Data, s.Data) && slices.Equal(r.Entries, s.Entries) && r.Eof == s.Eof && r.Verf == s.Verf && r.Free == s.Free
}

func sameCtls(c, d wire.Ctl) bool {
	return c.Kind == d.Kind && c.Epoch == d.Epoch && c.Seq == d.Seq && c.At == d.At && bytes.Equal(c.Data, d.Data)
}

func same(m, n wire.Msg) bool {
	return m.Kind == n.Kind && sameCalls(m.Call, n.Call) && sameReplies(m.Reply, n.Reply) && sameCtls(m.Ctl, n.Ctl)
}

// belonging returns m without the fields that do not belong to its kind.
func belonging(m wire.Msg) wire.Msg {
	out := wire.Msg{Kind: m.Kind}
	switch m.Kind {
	case 1:
		out.Call = m.Call
	case 2:
		out.Reply = m.Reply
	case 3:
		out.Ctl = m.Ctl
	}
	return out
}

// fullCall returns a call whose every field is different.
func fullCall() call.Call {
	return call.Call{
		Client: 0x01020304, Xid: 0x05060708, Op: call.Rename, At: api.Handle{Ino: 0x090a0b0c, Gen: 0x0d0e0f10}, Name: "abcde",
		To: api.Handle{Ino: 0x11121314, Gen: 0x15161718}, ToName: "\xff.\x00/\n", Offset: 0x191a1b1c1d1e1f20, Verf: 0x2122232425262728,
		Count: 0x292a2b2c, Mode: 0x2d2e2f30, Data: []byte{0, 255, 7},
	}
}

// fullReply returns a reply whose every field is different.
func fullReply() call.Reply {
	return call.Reply{
		Client: 0x01020304, Xid: 0x05060708, Status: api.ErrStale, At: api.Handle{Ino: 0x090a0b0c, Gen: 0x0d0e0f10},
		Attr: call.Attr{Kind: 0x11121314, Mode: 0x15161718, Links: 0x191a1b1c, Size: 0x1d1e1f20, Change: 0x2122232425262728},
		Data: []byte{0, 255, 7, 8, 9}, Entries: []dir.Entry{{Cookie: 0x292a2b2c2d2e2f30, Handle: api.Handle{Ino: 0x31323334, Gen: 0x35363738}, Name: "ab"}},
		Eof: true, Verf: 0x393a3b3c3d3e3f40, Free: 0x41424344,
	}
}

// fullCtl returns a message of a move whose every field is different.
func fullCtl() wire.Ctl {
	return wire.Ctl{Kind: wire.Cache, Epoch: 0x0102030405060708, Seq: 0x1112131415161718, At: 0x21222324, Data: []byte{0, 255, 7, 8, 9}}
}

// full returns a message with all three, of the given kind.
func full(kind uint32) wire.Msg {
	return wire.Msg{Kind: kind, Call: fullCall(), Reply: fullReply(), Ctl: fullCtl()}
}

// entries returns count entries whose names have 24 bytes.
func entries(count int) []dir.Entry {
	var l []dir.Entry
	for i := range count {
		name := strings.Repeat("n", 21) + strconv.Itoa(100+i)
		l = append(l, dir.Entry{Cookie: uint64(i)*3 + 1, Handle: api.Handle{Ino: uint32(i) + 7, Gen: uint32(i) + 9}, Name: name})
	}
	return l
}

// greatest returns the message of the given kind with the longest encoding.
func greatest(kind uint32) wire.Msg {
	m := wire.Msg{
		Kind:  kind,
		Call:  call.Call{Op: call.Commit, Name: strings.Repeat("a", 64), ToName: strings.Repeat("b", 64), Data: bytes.Repeat([]byte{'c'}, 1024)},
		Reply: call.Reply{Data: bytes.Repeat([]byte{'d'}, 1024), Entries: entries(24)},
		Ctl:   wire.Ctl{Kind: wire.No, Data: bytes.Repeat([]byte{'e'}, 1024)},
	}
	return m
}

// kinds are those of messages, and numbers that look like them.
var kinds = []uint32{0, 1, 2, 3, 4, 5, 7, 8, 255, 256, 257, 258, 259, 260, 1<<16 + 1, 1 << 24, 1 << 31, 1<<31 + 1, 1<<31 + 2, 1<<31 + 3, math.MaxUint32 - 2, math.MaxUint32}

// ctlKinds are those of messages of a move, and numbers that look like them.
var ctlKinds = []uint32{0, 1, 2, 3, 4, 5, 6, 7, 8, 9, 15, 255, 256, 257, 263, 264, 1<<16 + 1, 1 << 24, 1 << 31, 1<<31 + 1, 1<<31 + 7, math.MaxUint32 - 6, math.MaxUint32}

// someMsg returns one that need not be permitted, but often is.
func someMsg(seed *uint64) wire.Msg {
	m := wire.Msg{
		Kind: 1 + uint32(below(seed, 3)),
		Call: call.Call{
			Client: noise(seed), Xid: noise(seed), Op: 1 + uint32(below(seed, 16)), Name: string(noisy(seed, below(seed, 65))),
			ToName: string(noisy(seed, below(seed, 30))), Offset: noise64(seed), Data: noisy(seed, below(seed, 50)),
		},
		Reply: call.Reply{
			Client: noise(seed), Xid: noise(seed), Status: api.Errno(60 + below(seed, 12)), Data: noisy(seed, below(seed, 50)),
			Entries: entries(below(seed, 25)), Eof: below(seed, 2) == 0, Verf: noise64(seed), Free: noise(seed),
		},
		Ctl: wire.Ctl{Kind: 1 + uint32(below(seed, 7)), Epoch: noise64(seed), Seq: noise64(seed), At: noise(seed), Data: noisy(seed, below(seed, 70))},
	}
	switch below(seed, 12) {
	case 0:
		m.Kind = kinds[below(seed, len(kinds))]
	case 1:
		m.Call.Op = uint32(below(seed, 40))
	case 2:
		m.Reply.Status = api.Errno(below(seed, 90))
	case 3:
		m.Ctl.Kind = ctlKinds[below(seed, len(ctlKinds))]
	case 4:
		m.Ctl.Data = noisy(seed, 1020+below(seed, 8))
	case 5:
		slices.Reverse(m.Reply.Entries)
	case 6:
		m.Call.Name = strings.Repeat("x", 60+below(seed, 10))
	}
	return m
}

// wantPut compares what Put returns with the model, and with the error that is expected.
func wantPut(t *testing.T, m wire.Msg, wanted api.Errno) []byte {
	t.Helper()
	got, e := wire.Put(m)
	want, f := plain(m)
	if f != wanted {
		t.Fatalf("the model of a message of kind %d returns %v, want %v", m.Kind, f, wanted)
	}
	if e != wanted || !bytes.Equal(got, want) || e != api.OK && got != nil {
		t.Errorf("a message of kind %d (Op %d, Status %d, Ctl %d): Put is %v, %v, want %v, %v", m.Kind, m.Call.Op, m.Reply.Status, m.Ctl.Kind, got, e, want, wanted)
	}
	return got
}

// wantGet compares what Get returns with what is expected, and with the model.
func wantGet(t *testing.T, b []byte, want wire.Msg, wanted api.Errno) {
	t.Helper()
	before := bytes.Clone(b)
	got, e := wire.Get(b)
	if e != wanted || !same(got, want) {
		t.Errorf("Get of %v is %+v, %v, want %+v, %v", b, got, e, want, wanted)
	}
	if model, f := plainGet(b); f != wanted || !same(model, want) {
		t.Errorf("the model of %v is %+v, %v, want %+v, %v", b, model, f, want, wanted)
	}
	if e != api.OK && (got.Call.Data != nil || got.Reply.Data != nil || got.Reply.Entries != nil || got.Ctl.Data != nil) {
		t.Errorf("Get of %v returns %v, and lists", b, e)
	}
	if !bytes.Equal(b, before) {
		t.Error("Get changed its argument")
	}
}

// wantRefused expects an error of Get.
func wantRefused(t *testing.T, b []byte, wanted api.Errno) {
	t.Helper()
	wantGet(t, b, wire.Msg{}, wanted)
}

func TestNumbers(t *testing.T) {
	for i, x := range []uint32{wire.Asks, wire.Tells, wire.Moves} {
		if x != uint32(i)+1 {
			t.Errorf("kind %d of a message is %d", i+1, x)
		}
	}
	for i, x := range []uint32{wire.Begin, wire.Item, wire.Cache, wire.Fin, wire.Take, wire.Ok, wire.No} {
		if x != uint32(i)+1 {
			t.Errorf("kind %d of a message of a move is %d", i+1, x)
		}
	}
}

// P16.1

func TestPutExample(t *testing.T) {
	b, e := wire.Put(wire.Msg{Kind: wire.Moves, Ctl: wire.Ctl{Kind: wire.Ok, Epoch: 1, Seq: 2}})
	want := sealed([]byte{
		0, 0, 0, 3, 0, 0, 0, 28,
		0, 0, 0, 6, 0, 0, 0, 0, 0, 0, 0, 1, 0, 0, 0, 0, 0, 0, 0, 2, 0, 0, 0, 0, 0, 0, 0, 0,
	})
	if e != api.OK || len(b) != 40 || !bytes.Equal(b, want) {
		t.Errorf("Put is %v, %v, want %v", b, e, want)
	}
}

func TestPutBytes(t *testing.T) {
	content, e := call.PutCall(fullCall())
	if b, f := wire.Put(full(wire.Asks)); e != api.OK || f != api.OK || !bytes.Equal(b, framed(1, content)) {
		t.Errorf("a call is %v, %v", b, f)
	}
	content, e = call.PutReply(fullReply())
	if b, f := wire.Put(full(wire.Tells)); e != api.OK || f != api.OK || !bytes.Equal(b, framed(2, content)) {
		t.Errorf("a reply is %v, %v", b, f)
	}
	want := sealed([]byte{
		0, 0, 0, 3, 0, 0, 0, 36,
		0, 0, 0, 3, 1, 2, 3, 4, 5, 6, 7, 8, 0x11, 0x12, 0x13, 0x14, 0x15, 0x16, 0x17, 0x18, 0x21, 0x22, 0x23, 0x24,
		0, 0, 0, 5, 0, 255, 7, 8, 9, 0, 0, 0,
	})
	if b, f := wire.Put(full(wire.Moves)); f != api.OK || !bytes.Equal(b, want) {
		t.Errorf("a message of a move is %v, %v, want %v", b, f, want)
	}
}

func TestPutKinds(t *testing.T) {
	for _, kind := range kinds {
		wanted := api.ErrArg
		if kind == 1 || kind == 2 || kind == 3 {
			wanted = api.OK
		}
		wantPut(t, full(kind), wanted)
	}
	wantPut(t, wire.Msg{}, api.ErrArg)
}

func TestPutCtlKinds(t *testing.T) {
	for _, kind := range ctlKinds {
		m := full(wire.Moves)
		m.Ctl.Kind = kind
		wanted := api.ErrArg
		if kind >= 1 && kind <= 7 {
			wanted = api.OK
		}
		wantPut(t, m, wanted)
		m.Ctl.Data = make([]byte, 1025)
		wantPut(t, m, api.ErrArg)
		m.Ctl = wire.Ctl{Kind: kind}
		wantPut(t, m, wanted)
	}
}

func TestPutCtlData(t *testing.T) {
	for size := range 1100 {
		m := wire.Msg{Kind: wire.Moves, Ctl: wire.Ctl{Kind: wire.Item, Data: bytes.Repeat([]byte{byte(size)}, size)}}
		wanted := api.OK
		if size > 1024 {
			wanted = api.ErrArg
		}
		wantPut(t, m, wanted)
	}
	wantPut(t, wire.Msg{Kind: wire.Moves, Ctl: wire.Ctl{Kind: wire.Item, Data: make([]byte, 5000)}}, api.ErrArg)
}

func TestPutCtlFields(t *testing.T) {
	numbers := []uint64{0, 1, 255, 256, 1<<31 - 1, 1 << 31, math.MaxUint32, 1 << 32, 1<<63 - 1, 1 << 63, math.MaxUint64}
	for _, x := range numbers {
		for _, c := range []wire.Ctl{{Epoch: x}, {Seq: x}, {At: uint32(x)}, {Epoch: x, Seq: ^x, At: uint32(x) + 1}} {
			for c.Kind = wire.Begin; c.Kind <= wire.No; c.Kind++ {
				wantPut(t, wire.Msg{Kind: wire.Moves, Ctl: c}, api.OK)
			}
		}
	}
}

func TestPutErrorsOfCall(t *testing.T) {
	for _, op := range []uint32{0, 17, 256 + 1, math.MaxUint32} {
		m := full(wire.Asks)
		m.Call.Op = op
		wantPut(t, m, api.ErrArg)
	}
	for _, size := range []int{64, 65, 2000} {
		wanted := api.OK
		if size > 64 {
			wanted = api.ErrArg
		}
		m := full(wire.Asks)
		m.Call.Name = strings.Repeat("a", size)
		wantPut(t, m, wanted)
		m = full(wire.Asks)
		m.Call.ToName = strings.Repeat("a", size)
		wantPut(t, m, wanted)
	}
	for _, size := range []int{1024, 1025, 5000} {
		wanted := api.OK
		if size > 1024 {
			wanted = api.ErrArg
		}
		m := full(wire.Asks)
		m.Call.Data = make([]byte, size)
		wantPut(t, m, wanted)
		m = full(wire.Tells)
		m.Reply.Data = make([]byte, size)
		wantPut(t, m, wanted)
	}
	for _, status := range []api.Errno{1, 59, 72, -1} {
		m := full(wire.Tells)
		m.Reply.Status = status
		wantPut(t, m, api.ErrArg)
	}
	m := full(wire.Tells)
	m.Reply.Entries = entries(25)
	wantPut(t, m, api.ErrArg)
	m.Reply.Entries = entries(24)
	wantPut(t, m, api.OK)
	slices.Reverse(m.Reply.Entries)
	wantPut(t, m, api.ErrForm) // that of dir.Put
	m.Kind = 4
	wantPut(t, m, api.ErrArg)
}

func TestPutIgnores(t *testing.T) {
	wrong := wire.Msg{
		Call:  call.Call{Op: 99, Name: strings.Repeat("a", 65), Data: make([]byte, 1025)},
		Reply: call.Reply{Status: 5, Data: make([]byte, 1025), Entries: entries(25)},
		Ctl:   wire.Ctl{Kind: 8, Data: make([]byte, 1025)},
	}
	for kind := uint32(wire.Asks); kind <= wire.Moves; kind++ {
		alone := belonging(full(kind))
		want := wantPut(t, alone, api.OK)
		m := wrong
		m.Kind = kind
		switch kind {
		case wire.Asks:
			m.Call = alone.Call
		case wire.Tells:
			m.Reply = alone.Reply
		case wire.Moves:
			m.Ctl = alone.Ctl
		}
		if got, e := wire.Put(m); e != api.OK || !bytes.Equal(got, want) {
			t.Errorf("with other fields, kind %d is %v, %v, want %v", kind, got, e, want)
		}
	}
	for kind := uint32(wire.Asks); kind <= wire.Moves; kind++ {
		m := full(kind)
		switch kind {
		case wire.Asks:
			m.Call = call.Call{}
		case wire.Tells:
			m.Reply = call.Reply{Status: 5}
		case wire.Moves:
			m.Ctl = wire.Ctl{}
		}
		wantPut(t, m, api.ErrArg)
	}
}

func TestPutNewMemory(t *testing.T) {
	for kind := uint32(wire.Asks); kind <= wire.Moves; kind++ {
		m := full(kind)
		first, e := wire.Put(m)
		if e != api.OK {
			t.Fatal(e)
		}
		want := bytes.Clone(first)
		clear(first[:cap(first)])
		if !same(m, full(kind)) {
			t.Errorf("kind %d: what Put returned reaches into its argument", kind)
		}
		if again, _ := wire.Put(m); !bytes.Equal(again, want) {
			t.Errorf("kind %d: Put is %v the second time, want %v", kind, again, want)
		}
	}
}

// P16.2

func TestGetSum(t *testing.T) {
	for size := range 4 {
		wantRefused(t, make([]byte, size), api.ErrSum)
		wantRefused(t, bytes.Repeat([]byte{255}, size), api.ErrSum)
	}
	wantRefused(t, nil, api.ErrSum)
	for kind := uint32(wire.Asks); kind <= wire.Moves; kind++ {
		b := wantPut(t, full(kind), api.OK)
		for size := range len(b) {
			wantRefused(t, b[:size], api.ErrSum)
		}
		for _, left := range []byte{0, 1, 255} {
			wantRefused(t, append(bytes.Clone(b), left), api.ErrSum)
			wantRefused(t, append(bytes.Clone(b), left, left, left, left), api.ErrSum)
		}
	}
	// A checksum that does not match comes ahead of everything else that is wrong.
	for _, bad := range [][]byte{{}, {0, 0, 0}, u32(nil, 9, 0), u32(nil, 1, 5000), u32(nil, 1, 0, 7), u32(nil, 3, 4, 0)} {
		b := sealed(bad)
		b[len(b)-1] ^= 1
		wantRefused(t, b, api.ErrSum)
	}
}

func TestGetShort(t *testing.T) {
	for kind := uint32(wire.Asks); kind <= wire.Moves; kind++ {
		b := wantPut(t, full(kind), api.OK)
		b = b[:len(b)-4]
		for size := range len(b) {
			wantRefused(t, sealed(b[:size]), api.ErrShort)
		}
		b[3] = 9 // the kind is looked at later
		for size := range len(b) {
			wantRefused(t, sealed(b[:size]), api.ErrShort)
		}
	}
}

func TestGetOpaque(t *testing.T) {
	for _, kind := range kinds {
		valid := kind >= 1 && kind <= 3
		for _, size := range []uint32{4097, 4098, 4100, 5000, 1 << 16, 1 << 31, math.MaxUint32} {
			wantRefused(t, sealed(u32(nil, kind, size)), api.ErrBig)
			wantRefused(t, sealed(append(u32(nil, kind, size), make([]byte, 4100)...)), api.ErrBig)
		}
		wantRefused(t, sealed(u32(nil, kind, 4096)), api.ErrShort)
		wanted := api.ErrForm
		if valid {
			wanted = api.ErrLeft // bytes of the content are left
			if kind == 1 {
				content := make([]byte, 4096)
				content[11] = 1
				wantRefused(t, framed(kind, content), api.ErrLeft)
			}
		}
		wantRefused(t, framed(kind, make([]byte, 4096)), wanted)
		wantRefused(t, sealed(append(opaque(u32(nil, kind), make([]byte, 4096)), 0)), api.ErrLeft)
		padded := opaque(u32(nil, kind), []byte{1, 2, 3, 4, 5})
		for i := 1; i <= 3; i++ {
			b := bytes.Clone(padded)
			b[len(b)-i] = 1
			wantRefused(t, sealed(b), api.ErrForm)
			wantRefused(t, sealed(append(b, 1)), api.ErrForm) // ahead of bytes that are left
		}
	}
}

func TestGetLeft(t *testing.T) {
	for _, kind := range kinds {
		for _, left := range [][]byte{{0}, {1}, {0, 0, 0, 0}, {255, 255, 255, 255, 255}} {
			m := full(kind)
			var content []byte
			switch kind {
			case 1:
				content, _ = call.PutCall(m.Call)
			case 2:
				content, _ = call.PutReply(m.Reply)
			default:
				content = plainCtl(m.Ctl)
			}
			wantRefused(t, sealed(append(opaque(u32(nil, kind), content), left...)), api.ErrLeft)
			wantRefused(t, sealed(append(opaque(u32(nil, kind), nil), left...)), api.ErrLeft)
		}
	}
}

func TestGetKinds(t *testing.T) {
	contents := [][]byte{{}, plainCtl(fullCtl()), {1, 2, 3}, make([]byte, 64)}
	b, _ := call.PutCall(fullCall())
	contents = append(contents, b)
	b, _ = call.PutReply(fullReply())
	contents = append(contents, b)
	for _, kind := range kinds {
		for _, content := range contents {
			if kind >= 1 && kind <= 3 {
				m, e := plainGet(framed(kind, content))
				wantGet(t, framed(kind, content), m, e)
			} else {
				wantRefused(t, framed(kind, content), api.ErrForm)
			}
		}
	}
	for kind := uint32(wire.Asks); kind <= wire.Moves; kind++ {
		wantGet(t, wantPut(t, full(kind), api.OK), belonging(full(kind)), api.OK)
	}
}

// TestGetContent cuts the content of a message at each length, and leaves bytes behind it.
func TestGetContent(t *testing.T) {
	for kind := uint32(wire.Asks); kind <= wire.Moves; kind++ {
		b := wantPut(t, full(kind), api.OK)
		size := binary.BigEndian.Uint32(b[4:])
		content := b[8 : 8+size]
		for n := range content {
			wantRefused(t, framed(kind, content[:n]), api.ErrShort)
		}
		wantRefused(t, framed(kind, append(bytes.Clone(content), 0)), api.ErrLeft)
		wantRefused(t, framed(kind, append(bytes.Clone(content), 0, 0, 0, 1)), api.ErrLeft)
		wantGet(t, framed(kind, content), belonging(full(kind)), api.OK)
	}
}

func TestGetCall(t *testing.T) {
	content, _ := call.PutCall(fullCall())
	for _, op := range []byte{0, 17, 255} {
		b := bytes.Clone(content)
		b[11] = op
		wantRefused(t, framed(1, b), api.ErrForm)
		wantRefused(t, framed(1, append(b, 0)), api.ErrLeft)
	}
	b := bytes.Clone(content)
	b[23] = 65 // the length of Name
	wantRefused(t, framed(1, b), api.ErrBig)
	b[23] = 5
	b[31] = 1 // behind Name
	wantRefused(t, framed(1, b), api.ErrForm)
}

func TestGetReply(t *testing.T) {
	r := fullReply()
	content, _ := call.PutReply(r)
	for _, status := range []byte{1, 59, 72, 255} {
		b := bytes.Clone(content)
		b[11] = status
		wantRefused(t, framed(2, b), api.ErrForm)
		wantRefused(t, framed(2, append(b, 0)), api.ErrLeft)
	}
	b := bytes.Clone(content)
	b[46] = 5 // the length of Data
	wantRefused(t, framed(2, b), api.ErrBig)
	b = bytes.Clone(content)
	b[79] = 25 // the length of the entry's name
	wantRefused(t, framed(2, b), api.ErrBig)
	b[79] = 3 // a name with a zero byte
	wantRefused(t, framed(2, b), api.ErrForm)
	b[79] = 5 // a name of which a part is missing
	wantRefused(t, framed(2, b), api.ErrShort)
}

func TestGetCtlKinds(t *testing.T) {
	for _, kind := range ctlKinds {
		c := fullCtl()
		c.Kind = kind
		valid := kind >= 1 && kind <= 7
		content := plainCtl(c)
		if valid {
			wantGet(t, framed(3, content), wire.Msg{Kind: 3, Ctl: c}, api.OK)
		} else {
			wantRefused(t, framed(3, content), api.ErrForm)
		}
		for n := range content {
			wantRefused(t, framed(3, content[:n]), api.ErrShort)
		}
		wantRefused(t, framed(3, append(bytes.Clone(content), 0)), api.ErrLeft)
		wantRefused(t, framed(3, append(bytes.Clone(content), 1, 2, 3, 4)), api.ErrLeft)
		c.Data = make([]byte, 1025)
		content = plainCtl(c)
		wantRefused(t, framed(3, content), api.ErrBig)
		wantRefused(t, framed(3, append(content, 0)), api.ErrBig)
		wantRefused(t, framed(3, content[:28]), api.ErrBig)
		c.Data = []byte{1, 2, 3, 4, 5}
		content = plainCtl(c)
		content[len(content)-1] = 1
		wantRefused(t, framed(3, content), api.ErrForm)
		wantRefused(t, framed(3, append(content, 0)), api.ErrForm)
	}
}

func TestGetCtlData(t *testing.T) {
	for size := range 1100 {
		c := wire.Ctl{Kind: wire.Item, Data: bytes.Repeat([]byte{byte(size)}, size)}
		if size > 1024 {
			wantRefused(t, framed(3, plainCtl(c)), api.ErrBig)
		} else {
			wantGet(t, framed(3, plainCtl(c)), wire.Msg{Kind: 3, Ctl: c}, api.OK)
		}
	}
	for _, size := range []uint32{1025, 1 << 16, 1 << 31, math.MaxUint32} {
		content := u32(plainCtl(wire.Ctl{Kind: wire.Item})[:24], size)
		wantRefused(t, framed(3, content), api.ErrBig)
	}
	content := u32(plainCtl(wire.Ctl{Kind: wire.Item})[:24], 1024)
	wantRefused(t, framed(3, content), api.ErrShort)
}

func TestGetNewMemory(t *testing.T) {
	for kind := uint32(wire.Asks); kind <= wire.Moves; kind++ {
		b := wantPut(t, full(kind), api.OK)
		kept := bytes.Clone(b)
		first, _ := wire.Get(b)
		second, _ := wire.Get(b)
		clear(b)
		if !same(first, belonging(full(kind))) {
			t.Errorf("kind %d: Get retained its argument", kind)
		}
		copy(b, kept)
		for _, l := range [][]byte{first.Call.Data, first.Reply.Data, first.Ctl.Data} {
			clear(l[:cap(l)])
		}
		clear(first.Reply.Entries[:cap(first.Reply.Entries)])
		if !bytes.Equal(b, kept) || !same(second, belonging(full(kind))) {
			t.Errorf("kind %d: what Get returned reaches into other memory", kind)
		}
	}
}

// P16.3

func TestRoundTrip(t *testing.T) {
	seed := uint64(16)
	refused := 0
	for range 6000 {
		m := someMsg(&seed)
		_, wanted := plain(m)
		b := wantPut(t, m, wanted)
		if wanted != api.OK {
			refused++
			continue
		}
		got, e := wire.Get(b)
		if e != api.OK || !same(got, belonging(m)) {
			t.Fatalf("Get is %+v, %v, want %+v", got, e, belonging(m))
		}
		if again, e := wire.Put(got); e != api.OK || !bytes.Equal(again, b) {
			t.Fatalf("Put is %v, %v, want %v", again, e, b)
		}
	}
	if refused < 100 || refused > 3000 {
		t.Errorf("%d messages are refused", refused)
	}
}

func TestGreatest(t *testing.T) {
	for kind := uint32(wire.Asks); kind <= wire.Moves; kind++ {
		m := greatest(kind)
		wantGet(t, wantPut(t, m, api.OK), belonging(m), api.OK)
	}
}

// TestDamaged alters, cuts and appends bytes ahead of the checksum, which is made anew: what Get returns nevertheless has those bytes as its encoding.
func TestDamaged(t *testing.T) {
	seed := uint64(61)
	accepted := 0
	for range 20000 {
		b, e := wire.Put(someMsg(&seed))
		if e != api.OK {
			continue
		}
		b = b[:len(b)-4]
		for range below(&seed, 3) {
			if at := below(&seed, 8*len(b)); below(&seed, 2) == 0 {
				b[at/8] ^= 1 << (at % 8)
			} else {
				b[at/8%40] = byte(below(&seed, 9))
			}
		}
		switch below(&seed, 8) {
		case 0:
			b = b[:below(&seed, len(b))]
		case 1:
			b = append(b, noisy(&seed, 1+below(&seed, 5))...)
		}
		b = sealed(b)
		want, wanted := plainGet(b)
		wantGet(t, b, want, wanted)
		if wanted != api.OK {
			continue
		}
		accepted++
		if again, e := wire.Put(want); e != api.OK || !bytes.Equal(again, b) {
			t.Fatalf("Put is %v, %v, want %v", again, e, b)
		}
	}
	if accepted < 1000 {
		t.Errorf("only %d messages are accepted", accepted)
	}
}

// TestAlteredBits alters up to 32 consecutive bits of a message, at every position.
func TestAlteredBits(t *testing.T) {
	seed := uint64(32)
	for kind := uint32(wire.Asks); kind <= wire.Moves; kind++ {
		b := wantPut(t, full(kind), api.OK)
		for at := range 8 * len(b) {
			for _, bits := range []uint32{1 << 31, 3 << 30, 1<<31 | 1, math.MaxUint32, 1<<31 | noise(&seed), noise(&seed) >> 16 << 16} {
				altered := bytes.Clone(b)
				different := false
				for i := range 32 {
					if bits<<i>>31 == 1 && at+i < 8*len(b) {
						altered[(at+i)/8] ^= 128 >> ((at + i) % 8)
						different = true
					}
				}
				if got, e := wire.Get(altered); different && (e != api.ErrSum || !same(got, wire.Msg{})) {
					t.Fatalf("kind %d, bits %x from %d on: Get is %+v, %v", kind, bits, at, got, e)
				}
			}
		}
	}
}
