package xdr_test

import (
	"bytes"
	"math"
	"strconv"
	"testing"

	"removalist/api"
	"removalist/xdr"
)

// P1.1

func TestWriterNumbers(t *testing.T) {
	u32 := []struct {
		x    uint32
		want []byte
	}{
		{0, []byte{0, 0, 0, 0}},
		{1, []byte{0, 0, 0, 1}},
		{255, []byte{0, 0, 0, 255}},
		{256, []byte{0, 0, 1, 0}},
		{0x01020304, []byte{1, 2, 3, 4}},
		{1 << 31, []byte{128, 0, 0, 0}},
		{math.MaxUint32, []byte{255, 255, 255, 255}},
	}
	for _, c := range u32 {
		w := xdr.NewWriter()
		w.U32(c.x)
		wantOut(t, "U32 of "+strconv.FormatUint(uint64(c.x), 10), w, c.want)
	}
	u64 := []struct {
		x    uint64
		want []byte
	}{
		{0, []byte{0, 0, 0, 0, 0, 0, 0, 0}},
		{258, []byte{0, 0, 0, 0, 0, 0, 1, 2}},
		{1 << 32, []byte{0, 0, 0, 1, 0, 0, 0, 0}},
		{0x0102030405060708, []byte{1, 2, 3, 4, 5, 6, 7, 8}},
		{1 << 63, []byte{128, 0, 0, 0, 0, 0, 0, 0}},
		{math.MaxUint64, []byte{255, 255, 255, 255, 255, 255, 255, 255}},
	}
	for _, c := range u64 {
		w := xdr.NewWriter()
		w.U64(c.x)
		wantOut(t, "U64 of "+strconv.FormatUint(c.x, 10), w, c.want)
	}
}

func TestWriterBool(t *testing.T) {
	w := xdr.NewWriter()
	w.Bool(true)
	wantOut(t, "Bool of true", w, []byte{0, 0, 0, 1})
	w = xdr.NewWriter()
	w.Bool(false)
	wantOut(t, "Bool of false", w, []byte{0, 0, 0, 0})
}

func TestWriterOpaque(t *testing.T) {
	cases := []struct {
		b    []byte
		want []byte
	}{
		{nil, []byte{0, 0, 0, 0}},
		{[]byte{}, []byte{0, 0, 0, 0}},
		{[]byte("a"), []byte{0, 0, 0, 1, 97, 0, 0, 0}},
		{[]byte("ab"), []byte{0, 0, 0, 2, 97, 98, 0, 0}},
		{[]byte("abc"), []byte{0, 0, 0, 3, 97, 98, 99, 0}},
		{[]byte("abcd"), []byte{0, 0, 0, 4, 97, 98, 99, 100}},
		{[]byte("abcde"), []byte{0, 0, 0, 5, 97, 98, 99, 100, 101, 0, 0, 0}},
		{[]byte{0, 255}, []byte{0, 0, 0, 2, 0, 255, 0, 0}},
	}
	for _, c := range cases {
		w := xdr.NewWriter()
		w.Opaque(c.b)
		wantOut(t, "Opaque of "+strconv.Quote(string(c.b)), w, c.want)
	}
	long := bytes.Repeat([]byte{7}, 258)
	w := xdr.NewWriter()
	w.Opaque(long)
	want := append([]byte{0, 0, 1, 2}, long...)
	wantOut(t, "Opaque of 258 bytes", w, append(want, 0, 0))
}

func TestWriterAppends(t *testing.T) {
	w := xdr.NewWriter()
	wantOut(t, "nothing written", w, nil)
	w.Opaque([]byte{9})
	w.U32(2)
	w.Bool(true)
	w.U64(3)
	w.Opaque(nil)
	w.Bool(false)
	want := []byte{
		0, 0, 0, 1, 9, 0, 0, 0,
		0, 0, 0, 2,
		0, 0, 0, 1,
		0, 0, 0, 0, 0, 0, 0, 3,
		0, 0, 0, 0,
		0, 0, 0, 0,
	}
	wantOut(t, "all kinds in a row", w, want)
	wantOut(t, "Out once more", w, want)
}

func TestOutIsNewMemory(t *testing.T) {
	w := xdr.NewWriter()
	w.U32(1)
	first := w.Out()
	first[3] = 9
	wantOut(t, "after a result was changed", w, []byte{0, 0, 0, 1})
	second := w.Out()
	_ = append(second, 8, 8, 8, 8)
	w.U32(2)
	wantOut(t, "after a result was appended to", w, []byte{0, 0, 0, 1, 0, 0, 0, 2})
	if !bytes.Equal(second, []byte{0, 0, 0, 1}) {
		t.Error("a result was changed by a later write:", second)
	}
}

func TestWriterLeavesArgumentsAlone(t *testing.T) {
	whole := []byte{1, 2, 3, 4, 5}
	w := xdr.NewWriter()
	w.Opaque(whole[:2])
	whole[0] = 9
	wantOut(t, "after an argument was changed", w, []byte{0, 0, 0, 2, 1, 2, 0, 0})
	if !bytes.Equal(whole, []byte{9, 2, 3, 4, 5}) {
		t.Error("an argument was changed:", whole)
	}
}

func TestNilWriter(t *testing.T) {
	var w *xdr.Writer
	w.U32(1)
	w.U64(1)
	w.Bool(true)
	w.Opaque([]byte("abc"))
	wantOut(t, "a nil Writer", w, nil)
}

// P1.2

func TestReaderNumbers(t *testing.T) {
	r := xdr.NewReader([]byte{1, 2, 3, 4, 128, 0, 0, 0, 0, 0, 0, 5, 255, 255, 255, 255, 255, 255, 255, 255, 255, 255, 255, 255})
	if x := r.U32(); x != 0x01020304 {
		t.Error("U32:", x)
	}
	wantState(t, "after U32", r, 20, api.OK)
	if x := r.U64(); x != 1<<63+5 {
		t.Error("U64:", x)
	}
	wantState(t, "after U64", r, 12, api.OK)
	if x := r.U32(); x != math.MaxUint32 {
		t.Error("greatest U32:", x)
	}
	if x := r.U64(); x != math.MaxUint64 {
		t.Error("greatest U64:", x)
	}
	wantState(t, "at the end", r, 0, api.OK)
}

func TestReaderNumbersTooShort(t *testing.T) {
	for n := range 8 {
		b := bytes.Repeat([]byte{1}, n)
		r := xdr.NewReader(b)
		if x := r.U64(); x != 0 {
			t.Error("U64 of", n, "bytes:", x)
		}
		wantState(t, "U64 of "+strconv.Itoa(n)+" bytes", r, n, api.ErrShort)
		if n >= 4 {
			continue
		}
		r = xdr.NewReader(b)
		if x := r.U32(); x != 0 {
			t.Error("U32 of", n, "bytes:", x)
		}
		wantState(t, "U32 of "+strconv.Itoa(n)+" bytes", r, n, api.ErrShort)
		r = xdr.NewReader(b)
		if r.Bool() {
			t.Error("Bool of", n, "bytes is true")
		}
		wantState(t, "Bool of "+strconv.Itoa(n)+" bytes", r, n, api.ErrShort)
	}
}

func TestReaderBool(t *testing.T) {
	cases := []struct {
		b    []byte
		want bool
		err  api.Errno
	}{
		{[]byte{0, 0, 0, 0}, false, api.OK},
		{[]byte{0, 0, 0, 1}, true, api.OK},
		{[]byte{0, 0, 0, 2}, false, api.ErrForm},
		{[]byte{1, 0, 0, 1}, false, api.ErrForm},
		{[]byte{0, 0, 1, 0}, false, api.ErrForm},
		{[]byte{255, 255, 255, 255}, false, api.ErrForm},
	}
	for _, c := range cases {
		r := xdr.NewReader(append(c.b, 7, 7))
		if x := r.Bool(); x != c.want {
			t.Error("Bool of", c.b, "is", x)
		}
		wantState(t, "Bool", r, 2, c.err)
	}
}

func TestReaderOpaque(t *testing.T) {
	cases := []struct {
		name string
		b    []byte
		most int
		want []byte
		left int
		err  api.Errno
	}{
		{"empty", []byte{0, 0, 0, 0}, 0, nil, 0, api.OK},
		{"empty, more follows", []byte{0, 0, 0, 0, 9}, 5, nil, 1, api.OK},
		{"one byte", []byte{0, 0, 0, 1, 9, 0, 0, 0}, 1, []byte{9}, 0, api.OK},
		{"two bytes", []byte{0, 0, 0, 2, 97, 98, 0, 0, 5}, 2, []byte("ab"), 1, api.OK},
		{"three bytes", []byte{0, 0, 0, 3, 0, 0, 0, 0}, 9, []byte{0, 0, 0}, 0, api.OK},
		{"four bytes", []byte{0, 0, 0, 4, 1, 2, 3, 4, 5}, 4, []byte{1, 2, 3, 4}, 1, api.OK},
		{"most with low bits of 0", []byte{0, 0, 0, 1, 9, 0, 0, 0}, math.MaxInt/2 + 1, []byte{9}, 0, api.OK},
		{"greatest most", []byte{0, 0, 0, 1, 9, 0, 0, 0}, math.MaxInt, []byte{9}, 0, api.OK},

		{"no bytes", nil, 9, nil, 0, api.ErrShort},
		{"a length of three bytes", []byte{0, 0, 0}, 9, nil, 3, api.ErrShort},
		{"no length, and most negative", []byte{0, 0, 0}, -1, nil, 3, api.ErrShort},

		{"one more than most", []byte{0, 0, 0, 2, 1, 1, 0, 0}, 1, nil, 4, api.ErrBig},
		{"one byte, most 0", []byte{0, 0, 0, 1, 9, 0, 0, 0}, 0, nil, 4, api.ErrBig},
		{"empty, most -1", []byte{0, 0, 0, 0, 9}, -1, nil, 1, api.ErrBig},
		{"most negative", []byte{0, 0, 0, 1, 9, 0, 0, 0}, math.MinInt, nil, 4, api.ErrBig},
		{"ErrBig comes before ErrShort", []byte{0, 0, 0, 9, 1}, 8, nil, 1, api.ErrBig},
		{"greatest length", []byte{255, 255, 255, 255, 1, 2, 3, 4}, math.MaxInt32, nil, 4, api.ErrBig},
		{"length of 2^31", []byte{128, 0, 0, 0}, math.MaxInt32, nil, 0, api.ErrBig},

		{"bytes missing", []byte{0, 0, 0, 4, 1, 2, 3}, 4, nil, 3, api.ErrShort},
		{"padding missing", []byte{0, 0, 0, 1, 9}, 4, nil, 1, api.ErrShort},
		{"a byte of padding missing", []byte{0, 0, 0, 1, 9, 0, 0}, 4, nil, 3, api.ErrShort},
		{"ErrShort comes before ErrForm", []byte{0, 0, 0, 1, 9, 1, 1}, 4, nil, 3, api.ErrShort},
		{"only a length", []byte{0, 0, 0, 1}, 4, nil, 0, api.ErrShort},
		{"greatest length permitted", []byte{255, 255, 255, 255, 1, 2, 3, 4}, math.MaxInt, nil, 4, api.ErrShort},

		{"first byte of padding", []byte{0, 0, 0, 1, 9, 1, 0, 0, 5}, 1, nil, 1, api.ErrForm},
		{"second byte of padding", []byte{0, 0, 0, 1, 9, 0, 1, 0, 5}, 1, nil, 1, api.ErrForm},
		{"last byte of padding", []byte{0, 0, 0, 1, 9, 0, 0, 128, 5}, 1, nil, 1, api.ErrForm},
		{"only byte of padding", []byte{0, 0, 0, 3, 1, 2, 3, 4, 5, 6}, 3, nil, 2, api.ErrForm},
	}
	for _, c := range cases {
		r := xdr.NewReader(c.b)
		if x := r.Opaque(c.most); !bytes.Equal(x, c.want) {
			t.Error(c.name, "read as", x)
		}
		wantState(t, c.name, r, c.left, c.err)
	}
}

func TestOpaqueIsNewMemory(t *testing.T) {
	b := []byte{0, 0, 0, 2, 1, 2, 0, 0, 0, 0, 0, 4, 5, 6, 7, 8}
	r := xdr.NewReader(b)
	first := r.Opaque(9)
	first[0] = 9
	_ = append(first, 9, 9, 9, 9, 9, 9, 9, 9)
	second := r.Opaque(9)
	if !bytes.Equal(second, []byte{5, 6, 7, 8}) || r.End() != api.OK {
		t.Error("a result reaches the bytes that are left:", second, r.End())
	}
	if !bytes.Equal(b, []byte{0, 0, 0, 2, 1, 2, 0, 0, 0, 0, 0, 4, 5, 6, 7, 8}) {
		t.Error("a result reaches the argument:", b)
	}
}

func TestReaderDoesNotRetainItsArgument(t *testing.T) {
	b := []byte{0, 0, 0, 1, 0, 0, 0, 1, 7, 0, 0, 0}
	r := xdr.NewReader(b)
	clear(b)
	if x := r.U32(); x != 1 {
		t.Error("U32 after the argument was changed:", x)
	}
	if x := r.Opaque(1); !bytes.Equal(x, []byte{7}) {
		t.Error("Opaque after the argument was changed:", x)
	}
}

func TestFirstErrorStays(t *testing.T) {
	rest := []byte{0, 0, 0, 1, 0, 0, 0, 1, 7, 0, 0, 0}
	cases := []struct {
		name string
		b    []byte
		fail func(r *xdr.Reader)
		left int
		err  api.Errno
	}{
		{"ErrShort", []byte{1, 2, 3, 4, 5, 6, 7}, func(r *xdr.Reader) { r.U64() }, 7, api.ErrShort},
		{"ErrForm of Bool", append([]byte{0, 0, 0, 2}, rest...), func(r *xdr.Reader) { r.Bool() }, 12, api.ErrForm},
		{"ErrForm of Opaque", append([]byte{0, 0, 0, 1, 1, 1, 1, 1}, rest...), func(r *xdr.Reader) { r.Opaque(9) }, 12, api.ErrForm},
		{"ErrBig", append([]byte{0, 0, 0, 2}, rest...), func(r *xdr.Reader) { r.Opaque(1) }, 12, api.ErrBig},
		{"ErrShort of Opaque", append([]byte{0, 0, 0, 99}, rest...), func(r *xdr.Reader) { r.Opaque(99) }, 12, api.ErrShort},
	}
	for _, c := range cases {
		r := xdr.NewReader(c.b)
		c.fail(r)
		wantState(t, c.name, r, c.left, c.err)
		for range 2 {
			if x := r.U32(); x != 0 {
				t.Error(c.name, "then U32:", x)
			}
			if x := r.U64(); x != 0 {
				t.Error(c.name, "then U64:", x)
			}
			if r.Bool() {
				t.Error(c.name, "then Bool is true")
			}
			if x := r.Opaque(9); len(x) != 0 {
				t.Error(c.name, "then Opaque:", x)
			}
			if x := r.Opaque(-1); len(x) != 0 {
				t.Error(c.name, "then Opaque of -1:", x)
			}
			wantState(t, c.name+" and further reading", r, c.left, c.err)
		}
	}
}

func TestEnd(t *testing.T) {
	r := xdr.NewReader([]byte{0, 0, 0, 6})
	wantState(t, "nothing read", r, 4, api.OK)
	if e := r.End(); e != api.ErrLeft {
		t.Error("End with bytes left:", e)
	}
	if x := r.U32(); x != 6 {
		t.Error("End kept ErrLeft: U32 is", x)
	}
	if e := r.End(); e != api.OK {
		t.Error("End of all:", e)
	}
	if e := xdr.NewReader(nil).End(); e != api.OK {
		t.Error("End of no bytes:", e)
	}
	r.U32()
	if e := r.End(); e != api.ErrShort {
		t.Error("End after ErrShort, nothing left:", e)
	}
}

func TestNilReader(t *testing.T) {
	var r *xdr.Reader
	if x := r.U32(); x != 0 {
		t.Error("U32:", x)
	}
	if x := r.U64(); x != 0 {
		t.Error("U64:", x)
	}
	if r.Bool() {
		t.Error("Bool is true")
	}
	for _, most := range []int{-1, 0, 9} {
		if x := r.Opaque(most); len(x) != 0 {
			t.Error("Opaque:", x)
		}
	}
	wantState(t, "a nil Reader", r, 0, api.ErrArg)
}

// P1.3

// item is one thing that can be written, told by which of its fields counts.
type item struct {
	kind byte
	u32  uint32
	u64  uint64
	flag bool
	body []byte
}

func (x item) write(w *xdr.Writer) {
	switch x.kind {
	case 0:
		w.U32(x.u32)
	case 1:
		w.U64(x.u64)
	case 2:
		w.Bool(x.flag)
	case 3:
		w.Opaque(x.body)
	}
}

func read(r *xdr.Reader, kind byte) item {
	x := item{kind: kind}
	switch kind {
	case 0:
		x.u32 = r.U32()
	case 1:
		x.u64 = r.U64()
	case 2:
		x.flag = r.Bool()
	case 3:
		x.body = r.Opaque(math.MaxInt)
	}
	return x
}

func same(a, b item) bool {
	return a.kind == b.kind && a.u32 == b.u32 && a.u64 == b.u64 && a.flag == b.flag && bytes.Equal(a.body, b.body)
}

func someItems() []item {
	l := []item{{kind: 2, flag: true}, {kind: 2, flag: false}}
	for i := range 32 {
		l = append(l, item{kind: 0, u32: 1<<i - 1}, item{kind: 0, u32: 1 << i})
	}
	for i := range 64 {
		l = append(l, item{kind: 1, u64: 1<<i - 1}, item{kind: 1, u64: 1 << i})
	}
	for n := range 70 {
		b := make([]byte, n)
		for i := range b {
			b[i] = byte(i*7 + n)
		}
		l = append(l, item{kind: 3, body: b}, item{kind: 3, body: make([]byte, n)})
	}
	return l
}

func TestWhatWasWrittenIsRead(t *testing.T) {
	l := someItems()
	w := xdr.NewWriter()
	for i, x := range l {
		x.write(w)
		if n := len(w.Out()); n%4 != 0 {
			t.Fatal("item", i, "makes an output of", n, "bytes")
		}
	}
	r := xdr.NewReader(w.Out())
	for i, x := range l {
		if y := read(r, x.kind); !same(x, y) {
			t.Fatal("item", i, "was written as", x, "and read as", y)
		}
	}
	if e := r.End(); e != api.OK {
		t.Error("End:", e)
	}
}

func TestLongOpaque(t *testing.T) {
	long := bytes.Repeat([]byte("abcde"), 1<<19)
	long = append(long, 'f')
	w := xdr.NewWriter()
	w.Opaque(long)
	b := w.Out()
	if len(b) != 4+len(long)+3 {
		t.Error(len(long), "bytes are written as", len(b))
	}
	r := xdr.NewReader(b)
	if x := r.Opaque(len(long)); !bytes.Equal(x, long) {
		t.Error(len(long), "bytes are read as", len(x))
	}
	wantState(t, "a long byte string", r, 0, api.OK)
}

// Every cut of an output is refused where it ends, and everything ahead of that is read.
func TestCutOutputIsRefused(t *testing.T) {
	l := []item{{kind: 0, u32: 5}, {kind: 3, body: []byte("abcde")}, {kind: 2, flag: true}, {kind: 1, u64: 1 << 40}, {kind: 3, body: []byte("abcd")}}
	w := xdr.NewWriter()
	var ends []int
	for _, x := range l {
		x.write(w)
		ends = append(ends, len(w.Out()))
	}
	b := w.Out()
	for n := range b {
		r := xdr.NewReader(b[:n])
		for i, x := range l {
			y := read(r, x.kind)
			if ends[i] > n {
				if !same(y, item{kind: x.kind}) || r.Err() != api.ErrShort {
					t.Fatal("cut to", n, "item", i, "is", y, r.Err())
				}
			} else if !same(x, y) || r.Err() != api.OK {
				t.Fatal("cut to", n, "item", i, "is", y, r.Err())
			}
		}
	}
}

// rewrite reads items of these kinds as long as there is no error, and returns what was consumed and what that is written as.
func rewrite(b, kinds []byte) (consumed, written []byte) {
	r := xdr.NewReader(b)
	w := xdr.NewWriter()
	for _, k := range kinds {
		x := read(r, k%4)
		if r.Err() != api.OK {
			break
		}
		x.write(w)
		consumed = b[:len(b)-r.Left()]
	}
	return consumed, w.Out()
}

func TestWhatWasReadIsWritten(t *testing.T) {
	for a := range 6 {
		for n := range 6 {
			for pad := range 3 {
				b := []byte{0, 0, 0, byte(a), byte(n), byte(pad), 0, byte(pad), 0, 0, 0, byte(n), 0, 0, 0, 0}
				for k := range 4 * 4 * 4 {
					kinds := []byte{byte(k % 4), byte(k / 4 % 4), byte(k / 16)}
					if in, out := rewrite(b, kinds); !bytes.Equal(in, out) {
						t.Fatal("kinds", kinds, "of", b, "read from", in, "written as", out)
					}
				}
			}
		}
	}
}

func FuzzWhatWasReadIsWritten(f *testing.F) {
	f.Add([]byte{0, 0, 0, 2, 97, 98, 0, 0}, []byte{3})
	f.Add([]byte{0, 0, 0, 1, 0, 0, 0, 2, 0, 0, 0, 0, 1, 1, 1}, []byte{2, 1, 0})
	f.Add([]byte{255, 255, 255, 255, 0}, []byte{3, 3})
	f.Fuzz(func(t *testing.T, b, kinds []byte) {
		in, out := rewrite(b, kinds)
		if !bytes.Equal(in, out) || len(out)%4 != 0 {
			t.Fatal("read from", in, "written as", out)
		}
	})
}

func wantOut(t *testing.T, name string, w *xdr.Writer, want []byte) {
	t.Helper()
	if b := w.Out(); !bytes.Equal(b, want) {
		t.Error(name, "is", b, "and not", want)
	}
}

// wantState also asks End, which must agree with Err and Left.
func wantState(t *testing.T, name string, r *xdr.Reader, left int, err api.Errno) {
	t.Helper()
	if n := r.Left(); n != left {
		t.Error(name, "leaves", n, "bytes and not", left)
	}
	if e := r.Err(); e != err {
		t.Error(name, "has the error", e, "and not", err)
	}
	end := err
	if err == api.OK && left > 0 {
		end = api.ErrLeft
	}
	if e := r.End(); e != end {
		t.Error(name, "ends with", e, "and not", end)
	}
}
