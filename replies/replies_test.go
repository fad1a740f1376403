package replies_test

import (
	"bytes"
	"encoding/binary"
	"math"
	"reflect"
	"testing"

	"removalist/api"
	"removalist/call"
	"removalist/dir"
	"removalist/replies"
	"removalist/txn"
)

// noise is the next of a fixed sequence of numbers without a visible pattern.
func noise(x *uint64) uint32 {
	*x = *x*6364136223846793005 + 1442695040888963407
	return uint32(*x >> 32)
}

// below is noise from 0 to n-1.
func below(x *uint64, n int) int { return int(noise(x) % uint32(n)) }

// encoding is the bytes of a reply as the document words them.
func encoding(r call.Reply) []byte {
	var b []byte
	for _, x := range []uint32{r.Xid, uint32(r.Status), r.At.Ino, r.At.Gen, r.Attr.Kind, r.Attr.Mode, r.Attr.Links, r.Attr.Size} {
		b = binary.BigEndian.AppendUint32(b, x)
	}
	b = binary.BigEndian.AppendUint64(b, r.Attr.Change)
	b = binary.BigEndian.AppendUint64(b, r.Verf)
	return binary.BigEndian.AppendUint32(b, r.Free)
}

// full is a reply all of whose numbers differ, each in all of its bytes.
func full(client uint32) call.Reply {
	return call.Reply{
		Client: client, Xid: 0x01020304, Status: api.ErrExist,
		At:   api.Handle{Ino: 0x11121314, Gen: 0x21222324},
		Attr: call.Attr{Kind: 0x31323334, Mode: 0x41424344, Links: 0x51525354, Size: 0x61626364, Change: 0x7172737475767778},
		Verf: 0x8182838485868788, Free: 0x91929394,
	}
}

// someReply returns one that Put accepts.
func someReply(seed *uint64) call.Reply {
	r := call.Reply{Client: uint32(below(seed, 8)), Xid: uint32(below(seed, 5))}
	if below(seed, 2) == 0 {
		r.Status = api.Errno(60 + below(seed, 12))
	}
	if below(seed, 3) > 0 {
		r.At = api.Handle{Ino: noise(seed), Gen: noise(seed)}
		r.Attr = call.Attr{Kind: noise(seed), Mode: noise(seed), Links: noise(seed), Size: noise(seed), Change: uint64(noise(seed))<<32 | 5}
		r.Verf, r.Free = uint64(noise(seed))<<20, noise(seed)
	}
	return r
}

// filled returns a transaction of 12 blocks, each with bytes of its own.
func filled() *txn.Txn {
	l := make([][]byte, 12)
	for i := range l {
		l[i] = bytes.Repeat([]byte{byte(i + 1)}, i+1)
	}
	return txn.New(l)
}

// picture returns the blocks as they are to become.
func picture(x *txn.Txn) [][]byte {
	out := make([][]byte, x.Len())
	for i := range out {
		out[i] = x.Get(i)
	}
	return out
}

// wantBlocks compares all blocks.
func wantBlocks(t *testing.T, x *txn.Txn, want [][]byte) {
	t.Helper()
	got := picture(x)
	if len(got) != len(want) {
		t.Fatalf("%d blocks, want %d", len(got), len(want))
	}
	for i := range want {
		if !bytes.Equal(got[i], want[i]) {
			t.Errorf("block %d is %v, want %v", i, got[i], want[i])
		}
	}
}

// same compares replies; nil and empty lists are equivalent.
func same(a, b call.Reply) bool {
	if len(a.Data)+len(b.Data)+len(a.Entries)+len(b.Entries) > 0 {
		return false // no reply of this package has any
	}
	a.Data, b.Data, a.Entries, b.Entries = nil, nil, nil, nil
	return reflect.DeepEqual(a, b)
}

func wantGet(t *testing.T, x *txn.Txn, client uint32, want call.Reply) {
	t.Helper()
	if got, is, e := replies.Get(x, client); !is || e != api.OK || !same(got, want) {
		t.Errorf("Get(%d) = %v, %v, %d, want %v", client, got, is, e, want)
	}
}

func wantNoGet(t *testing.T, x *txn.Txn, client uint32, want api.Errno) {
	t.Helper()
	if got, is, e := replies.Get(x, client); is || e != want || !same(got, call.Reply{}) {
		t.Errorf("Get(%d) = %v, %v, %d, want nothing, %d", client, got, is, e, want)
	}
}

func wantAsk(t *testing.T, x *txn.Txn, client, xid uint32, want int, reply call.Reply) {
	t.Helper()
	if k, r := replies.Ask(x, call.Call{Client: client, Xid: xid, Op: call.Mkdir}); k != want || !same(r, reply) {
		t.Errorf("Ask(%d, %d) = %d, %v, want %d, %v", client, xid, k, r, want, reply)
	}
}

// with returns a transaction of 12 blocks, that of the client being b.
func with(client uint32, b []byte) *txn.Txn {
	l := make([][]byte, 12)
	l[1+client] = b
	return txn.New(l)
}

// strange are blocks of which none is a reply, with the error of each.
func strange() []struct {
	b []byte
	e api.Errno
} {
	whole := encoding(full(0))
	statusOf := func(x uint32) []byte {
		b := bytes.Clone(whole)
		binary.BigEndian.PutUint32(b[4:], x)
		return b
	}
	type row = struct {
		b []byte
		e api.Errno
	}
	var l []row
	for n := 1; n < len(whole); n++ {
		l = append(l, row{whole[:n], api.ErrShort})
	}
	for n := 1; n <= api.Block; n++ {
		l = append(l, row{append(bytes.Clone(whole), make([]byte, n)...), api.ErrLeft})
	}
	for _, x := range []uint32{1, 10, 23, 59, 72, 128, 60 << 8, 1 << 31, math.MaxUint32} {
		l = append(l, row{statusOf(x), api.ErrForm})
		l = append(l, row{append(statusOf(x), 0), api.ErrLeft})
		l = append(l, row{statusOf(x)[:51], api.ErrShort})
	}
	return l
}

// P14.1

func TestPutOfEveryField(t *testing.T) {
	for client := range uint32(8) {
		x := filled()
		want := picture(x)
		want[1+client] = encoding(full(client))
		if len(want[1+client]) != 52 {
			t.Fatal("the encoding has 52 bytes")
		}
		if e := replies.Put(x, full(client)); e != api.OK {
			t.Fatal(e)
		}
		wantBlocks(t, x, want)
		wantGet(t, x, client, full(client))
	}
}

func TestPutOfZeros(t *testing.T) {
	x := filled()
	if e := replies.Put(x, call.Reply{Client: 2, Data: []byte{}, Entries: []dir.Entry{}}); e != api.OK {
		t.Fatal(e)
	}
	if b := x.Get(3); !bytes.Equal(b, make([]byte, 52)) {
		t.Error(b)
	}
	wantGet(t, x, 2, call.Reply{Client: 2})
}

func TestPutOfEachFieldAlone(t *testing.T) {
	for i, r := range []call.Reply{
		{Xid: 1}, {Status: 60}, {At: api.Handle{Ino: 1}}, {At: api.Handle{Gen: 1}}, {Attr: call.Attr{Kind: 1}}, {Attr: call.Attr{Mode: 1}},
		{Attr: call.Attr{Links: 1}}, {Attr: call.Attr{Size: 1}}, {Attr: call.Attr{Change: 1}}, {Verf: 1}, {Free: 1},
		{Attr: call.Attr{Change: 1 << 63}}, {Verf: math.MaxUint64}, {Xid: math.MaxUint32}, {Free: math.MaxUint32},
	} {
		x := txn.New(make([][]byte, 12))
		if e := replies.Put(x, r); e != api.OK || !bytes.Equal(x.Get(1), encoding(r)) {
			t.Error(i, e, x.Get(1))
		}
		wantGet(t, x, 0, r)
	}
}

func TestStatusOfPut(t *testing.T) {
	for s := api.Errno(-100); s <= 300; s++ {
		x := filled()
		want := picture(x)
		e, wanted := replies.Put(x, call.Reply{Client: 4, Xid: 1, Status: s}), api.ErrArg
		if s == 0 || s >= 60 && s <= 71 {
			wanted, want[5] = api.OK, encoding(call.Reply{Xid: 1, Status: s})
		}
		if e != wanted {
			t.Errorf("Put of status %d: %d", s, e)
		}
		wantBlocks(t, x, want)
	}
	for _, s := range []api.Errno{math.MinInt32, math.MaxInt32, math.MinInt, math.MaxInt, math.MinInt + 60} {
		if e := replies.Put(filled(), call.Reply{Status: s}); e != api.ErrArg {
			t.Errorf("Put of status %d: %d", s, e)
		}
	}
}

func TestPutRefuses(t *testing.T) {
	for i, r := range []call.Reply{
		{Client: 8}, {Client: 9}, {Client: 1 << 31}, {Client: math.MaxUint32}, {Client: 1 << 8},
		{Data: []byte{0}}, {Entries: []dir.Entry{{}}}, {Eof: true},
		{Client: 7, Data: make([]byte, 1024)}, {Client: 7, Status: api.ErrNoEnt, Eof: true},
	} {
		for _, x := range []*txn.Txn{filled(), txn.New(nil), nil} { // ErrArg comes ahead of the error of txn.Put
			want := picture(x)
			if e := replies.Put(x, r); e != api.ErrArg {
				t.Errorf("Put of %d: %d", i, e)
			}
			wantBlocks(t, x, want)
		}
	}
}

func TestErrorsOfTxn(t *testing.T) {
	good := encoding(full(0))
	for blocks := range 12 {
		for client := range uint32(8) {
			x := txn.New(make([][]byte, blocks))
			wanted := api.OK
			if blocks <= 1+int(client) {
				wanted = api.ErrRange
			}
			if e := replies.Put(x, full(client)); e != wanted {
				t.Errorf("Put for %d, %d blocks: %d", client, blocks, e)
			}
			y := txn.New(make([][]byte, blocks))
			if e := replies.SetRaw(y, client, good); e != wanted {
				t.Errorf("SetRaw for %d, %d blocks: %d", client, blocks, e)
			}
			if wanted != api.OK {
				wantNoGet(t, x, client, api.OK)
				wantAsk(t, x, client, 1, 0, call.Reply{})
			}
		}
	}
	if replies.Put(nil, full(0)) != api.ErrArg || replies.SetRaw(nil, 0, good) != api.ErrArg || replies.SetRaw(nil, 0, nil) != api.ErrArg {
		t.Error("txn.Put of nil returns ErrArg")
	}
}

func TestNilTxn(t *testing.T) {
	wantNoGet(t, nil, 0, api.OK)
	wantNoGet(t, nil, 8, api.ErrArg)
	wantAsk(t, nil, 0, 0, 0, call.Reply{})
	if b := replies.Raw(nil, 0); len(b) > 0 {
		t.Error(b)
	}
}

func TestGetOfNothing(t *testing.T) {
	x := txn.New(make([][]byte, 12))
	for client := range uint32(8) {
		wantNoGet(t, x, client, api.OK)
	}
	x.Put(1, []byte{1})
	x.Put(1, []byte{})
	wantNoGet(t, x, 0, api.OK)
}

func TestGetOfNoClient(t *testing.T) {
	l := make([][]byte, 300)
	for i := range l {
		l[i] = encoding(full(0))
	}
	x := txn.New(l)
	for _, client := range []uint32{8, 9, 16, 100, 256, 1 << 31, math.MaxUint32, math.MaxUint32 - 1} {
		wantNoGet(t, x, client, api.ErrArg)
		wantAsk(t, x, client, full(0).Xid, 0, call.Reply{})
		if b := replies.Raw(x, client); len(b) > 0 {
			t.Errorf("Raw(%d) = %v", client, b)
		}
	}
}

func TestGetOfStrangeBytes(t *testing.T) {
	for i, s := range strange() {
		client := uint32(i % 8)
		wantNoGet(t, with(client, s.b), client, s.e)
	}
}

func TestStatusOfGet(t *testing.T) {
	for s := range api.Errno(300) {
		r := full(5)
		r.Status = s
		x := with(5, encoding(r))
		if s == 0 || s >= 60 && s <= 71 {
			wantGet(t, x, 5, r)
		} else {
			wantNoGet(t, x, 5, api.ErrForm)
		}
	}
}

func TestGetOfWhatIsPut(t *testing.T) {
	x := with(3, encoding(call.Reply{Xid: 1}))
	x.Put(4, encoding(call.Reply{Xid: 2, Free: 9}))
	wantGet(t, x, 3, call.Reply{Client: 3, Xid: 2, Free: 9})
}

// P14.2

func TestAsk(t *testing.T) {
	x := filled()
	r := call.Reply{Client: 6, Xid: 5, Status: api.ErrNoSpc, Free: 3}
	if e := replies.Put(x, r); e != api.OK {
		t.Fatal(e)
	}
	want := picture(x)
	wantAsk(t, x, 6, 5, 1, r)
	wantAsk(t, x, 6, 6, 0, call.Reply{})
	wantAsk(t, x, 6, 4, 2, call.Reply{})
	wantAsk(t, x, 6, 0, 2, call.Reply{})
	wantAsk(t, x, 6, math.MaxUint32, 0, call.Reply{})
	wantAsk(t, x, 5, 5, 0, call.Reply{}) // whose block is strange
	wantBlocks(t, x, want)
}

func TestAskAtTheEnds(t *testing.T) {
	edges := []uint32{0, 1, 2, 1<<31 - 1, 1 << 31, 1<<31 + 1, math.MaxUint32 - 1, math.MaxUint32}
	for _, stored := range edges {
		r := full(7)
		r.Xid = stored
		x := with(7, encoding(r))
		for _, asked := range edges {
			if stored == asked {
				wantAsk(t, x, 7, asked, 1, r)
			} else if stored > asked {
				wantAsk(t, x, 7, asked, 2, call.Reply{})
			} else {
				wantAsk(t, x, 7, asked, 0, call.Reply{})
			}
		}
	}
}

func TestAskWithoutReply(t *testing.T) {
	x := txn.New(make([][]byte, 12))
	for client := range uint32(12) {
		wantAsk(t, x, client, 0, 0, call.Reply{}) // a reply without anything has this Xid, too
		wantAsk(t, x, client, 5, 0, call.Reply{})
	}
	for i, s := range strange() {
		client := uint32(i % 8)
		wantAsk(t, with(client, s.b), client, full(0).Xid, 0, call.Reply{})
		wantAsk(t, with(client, s.b), client, 0, 0, call.Reply{})
	}
}

func TestAskIsNotForTheOperation(t *testing.T) {
	x := with(0, encoding(full(0)))
	for op := range uint32(20) {
		c := call.Call{Xid: full(0).Xid, Op: op, Name: "a", Data: []byte("b"), Count: 3}
		if k, r := replies.Ask(x, c); k != 1 || !same(r, full(0)) {
			t.Error(op, k, r)
		}
	}
}

func TestRaw(t *testing.T) {
	x := filled()
	want := picture(x)
	for client := range uint32(8) {
		if b := replies.Raw(x, client); !bytes.Equal(b, want[1+client]) {
			t.Errorf("Raw(%d) = %v", client, b)
		}
	}
	for i, s := range strange() { // whatever is there, also what no reply is
		client := uint32(i % 8)
		if b := replies.Raw(with(client, s.b), client); !bytes.Equal(b, s.b) {
			t.Errorf("Raw = %v, want %v", b, s.b)
		}
	}
	x.Put(4, encoding(full(3)))
	if b := replies.Raw(x, 3); !bytes.Equal(b, encoding(full(3))) {
		t.Error(b)
	}
}

func TestSetRaw(t *testing.T) {
	for client := range uint32(8) {
		x := filled()
		want := picture(x)
		want[1+client] = encoding(full(0))
		if e := replies.SetRaw(x, client, want[1+client]); e != api.OK {
			t.Fatal(e)
		}
		wantBlocks(t, x, want)
		wantGet(t, x, client, full(client))
		for _, none := range [][]byte{nil, {}} {
			want[1+client] = nil
			if e := replies.SetRaw(x, client, none); e != api.OK {
				t.Fatal(e)
			}
			wantBlocks(t, x, want)
			replies.SetRaw(x, client, encoding(full(0)))
		}
	}
}

func TestStatusOfSetRaw(t *testing.T) {
	for s := range api.Errno(300) {
		b := encoding(call.Reply{Xid: 3, Status: s})
		x, wanted := filled(), api.ErrForm
		want := picture(x)
		if s == 0 || s >= 60 && s <= 71 {
			wanted, want[1] = api.OK, b
		}
		if e := replies.SetRaw(x, 0, b); e != wanted {
			t.Errorf("SetRaw of status %d: %d", s, e)
		}
		wantBlocks(t, x, want)
	}
}

func TestSetRawRefuses(t *testing.T) {
	for _, s := range strange() {
		for _, x := range []*txn.Txn{filled(), txn.New(nil), nil} { // ErrForm comes ahead of the error of txn.Put
			want := picture(x)
			if e := replies.SetRaw(x, 0, s.b); e != api.ErrForm {
				t.Errorf("SetRaw of %v: %d", s.b, e)
			}
			wantBlocks(t, x, want)
		}
	}
	for _, client := range []uint32{8, 9, 10, 256, 1 << 31, math.MaxUint32} {
		for _, b := range [][]byte{nil, encoding(full(0)), {1}} { // ErrArg comes ahead of ErrForm
			x := filled()
			want := picture(x)
			if e := replies.SetRaw(x, client, b); e != api.ErrArg {
				t.Errorf("SetRaw for %d: %d", client, e)
			}
			wantBlocks(t, x, want)
		}
	}
}

func TestMemoryIsNew(t *testing.T) {
	x := txn.New(make([][]byte, 12))
	b := encoding(full(0))
	replies.SetRaw(x, 1, b)
	clear(b)
	wantGet(t, x, 1, full(1))
	got := replies.Raw(x, 1)
	clear(got)
	wantGet(t, x, 1, full(1))
	if !bytes.Equal(replies.Raw(x, 1), encoding(full(1))) {
		t.Error("the block changed")
	}
}

// P14.3

// TestRandomRuns holds everything against a plain model: one reply per client.
func TestRandomRuns(t *testing.T) {
	seed := uint64(14)
	for range 60 {
		x := txn.New(make([][]byte, 9+below(&seed, 4)))
		var stored [8]*call.Reply
		for range 60 {
			step(t, &seed, x, &stored)
			wantStored(t, &seed, x, &stored)
		}
	}
}

// step stores a reply, by Put or by SetRaw, removes one, or has one refused.
func step(t *testing.T, seed *uint64, x *txn.Txn, stored *[8]*call.Reply) {
	t.Helper()
	r := someReply(seed)
	e, wanted := api.OK, api.OK
	switch below(seed, 6) {
	case 0:
		e, stored[r.Client] = replies.SetRaw(x, r.Client, nil), nil
	case 1:
		e, stored[r.Client] = replies.SetRaw(x, r.Client, encoding(r)), &r
	case 2:
		bad := strange()
		e, wanted = replies.SetRaw(x, r.Client, bad[below(seed, len(bad))].b), api.ErrForm
	case 3:
		r.Status = []api.Errno{-1, 1, 59, 72}[below(seed, 4)]
		e, wanted = replies.Put(x, r), api.ErrArg
	case 4:
		from := uint32(below(seed, 8)) // what one client was told, stored for another one
		e, stored[r.Client] = replies.SetRaw(x, r.Client, replies.Raw(x, from)), moved(stored[from], r.Client)
	default:
		e, stored[r.Client] = replies.Put(x, r), &r
	}
	if e != wanted {
		t.Fatalf("error %d, want %d", e, wanted)
	}
}

// moved returns the same reply to another client.
func moved(r *call.Reply, client uint32) *call.Reply {
	if r == nil {
		return nil
	}
	out := *r
	out.Client = client
	return &out
}

// wantStored asks for every client.
func wantStored(t *testing.T, seed *uint64, x *txn.Txn, stored *[8]*call.Reply) {
	t.Helper()
	want := make([][]byte, x.Len())
	for client := range uint32(8) {
		xid := uint32(below(seed, 5))
		r := stored[client]
		if r == nil {
			wantNoGet(t, x, client, api.OK)
			wantAsk(t, x, client, xid, 0, call.Reply{})
			continue
		}
		want[1+client] = encoding(*r)
		wantGet(t, x, client, *r)
		switch {
		case r.Xid == xid:
			wantAsk(t, x, client, xid, 1, *r)
		case r.Xid > xid:
			wantAsk(t, x, client, xid, 2, call.Reply{})
		default:
			wantAsk(t, x, client, xid, 0, call.Reply{})
		}
	}
	wantBlocks(t, x, want)
}
