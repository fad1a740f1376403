package dir_test

import (
	"bytes"
	"encoding/binary"
	"math"
	"slices"
	"strconv"
	"strings"
	"testing"

	"removalist/api"
	"removalist/dir"
)

// noise is the next of a fixed sequence of numbers without a visible pattern.
func noise(x *uint64) uint32 {
	*x = *x*6364136223846793005 + 1442695040888963407
	return uint32(*x >> 32)
}

// below is noise from 0 to n-1.
func below(x *uint64, n int) int { return int(noise(x)) % n }

func entry(cookie uint64, name string) dir.Entry {
	return dir.Entry{Cookie: cookie, Handle: api.Handle{Ino: uint32(cookie) + 7, Gen: uint32(cookie) + 9}, Name: name}
}

// cookies returns entries with these cookies, in this order, and different names.
func cookies(l ...uint64) []dir.Entry {
	var out []dir.Entry
	for i, c := range l {
		out = append(out, entry(c, "n"+strconv.Itoa(i)))
	}
	return out
}

// named returns entries with these names, in this order, and the cookies 1, 2, 3 and so on.
func named(l ...string) []dir.Entry {
	var out []dir.Entry
	for i, s := range l {
		out = append(out, entry(uint64(i)+1, s))
	}
	return out
}

// plainBytes encodes the entries as the document words it, whether or not they are valid.
func plainBytes(l []dir.Entry) []byte {
	var b []byte
	for _, e := range l {
		b = binary.BigEndian.AppendUint64(b, e.Cookie)
		b = binary.BigEndian.AppendUint32(b, e.Handle.Ino)
		b = binary.BigEndian.AppendUint32(b, e.Handle.Gen)
		b = binary.BigEndian.AppendUint32(b, uint32(len(e.Name)))
		b = append(b, e.Name...)
		for len(b)%4 != 0 {
			b = append(b, 0)
		}
	}
	return b
}

// plainName is Name as the document words it.
func plainName(s string) bool {
	if len(s) == 0 || len(s) > 24 || s == "." || s == ".." {
		return false
	}
	for i := 0; i < len(s); i++ {
		if s[i] == 0 || s[i] == '/' {
			return false
		}
	}
	return true
}

// plainValid says which entries are valid as the document words it.
func plainValid(l []dir.Entry) bool {
	for i, e := range l {
		if !plainName(e.Name) || e.Cookie == 0 {
			return false
		}
		for k := range i {
			if l[k].Name == e.Name || l[k].Cookie >= e.Cookie {
				return false
			}
		}
	}
	return true
}

// plainFind is Find as the document words it.
func plainFind(l []dir.Entry, name string) int {
	for i, e := range l {
		if e.Name == name {
			return i
		}
	}
	return -1
}

// plainAdd is Add as the document words it.
func plainAdd(l []dir.Entry, e dir.Entry) ([]dir.Entry, api.Errno) {
	last := uint64(0)
	for _, x := range l {
		last = x.Cookie
	}
	switch {
	case !plainName(e.Name):
		return nil, api.ErrName
	case plainFind(l, e.Name) >= 0:
		return nil, api.ErrExist
	case e.Cookie <= last:
		return nil, api.ErrCookie
	}
	var out []dir.Entry
	for _, x := range l {
		out = append(out, x)
	}
	return append(out, e), api.OK
}

// plainRemove is Remove as the document words it.
func plainRemove(l []dir.Entry, name string) ([]dir.Entry, api.Errno) {
	at := plainFind(l, name)
	if at < 0 {
		return nil, api.ErrNoEnt
	}
	var out []dir.Entry
	for i, x := range l {
		if i != at {
			out = append(out, x)
		}
	}
	return out, api.OK
}

// plainAfter is After as the document words it.
func plainAfter(l []dir.Entry, cookie uint64, most int) ([]dir.Entry, bool) {
	start := 0
	for start < len(l) && l[start].Cookie <= cookie {
		start++
	}
	if most < 0 {
		most = 0
	}
	if len(l)-start <= most {
		return l[start:], true
	}
	return l[start : start+most], false
}

func wantName(t *testing.T, s string, want api.Errno) {
	t.Helper()
	if e := dir.Name(s); e != want {
		t.Errorf("Name(%q) = %d, want %d", s, e, want)
	}
}

func wantPut(t *testing.T, l []dir.Entry, want []byte) {
	t.Helper()
	if b, e := dir.Put(l); e != api.OK || !bytes.Equal(b, want) {
		t.Errorf("Put(%v) = %v, %d, want %v", l, b, e, want)
	}
}

func wantGet(t *testing.T, b []byte, want []dir.Entry) {
	t.Helper()
	if l, e := dir.Get(b); e != api.OK || !slices.Equal(l, want) {
		t.Errorf("Get(%v) = %v, %d, want %v", b, l, e, want)
	}
}

func wantNoGet(t *testing.T, b []byte, want api.Errno) {
	t.Helper()
	if l, e := dir.Get(b); e != want || len(l) != 0 {
		t.Errorf("Get(%v) = %v, %d, want nothing, %d", b, l, e, want)
	}
}

// wantValid asks Put and Get, which both refuse entries that are not valid.
func wantValid(t *testing.T, l []dir.Entry, want bool) {
	t.Helper()
	b := plainBytes(l)
	if want {
		wantPut(t, l, b)
		wantGet(t, b, l)
		return
	}
	if b, e := dir.Put(l); e != api.ErrForm || len(b) != 0 {
		t.Errorf("Put(%v) = %v, %d, want nothing, %d", l, b, e, api.ErrForm)
	}
	wantNoGet(t, b, api.ErrForm)
}

func wantFind(t *testing.T, l []dir.Entry, name string, want int) {
	t.Helper()
	if got := dir.Find(l, name); got != want {
		t.Errorf("Find(%v, %q) = %d, want %d", l, name, got, want)
	}
}

// wantAdd holds Add against the plain model too, so that want is read off the document twice.
func wantAdd(t *testing.T, l []dir.Entry, e dir.Entry, want api.Errno) {
	t.Helper()
	model, plain := plainAdd(l, e)
	if plain != want {
		t.Errorf("plainAdd(%v, %v) = %d, want %d", l, e, plain, want)
	}
	if got, err := dir.Add(l, e); err != want || !slices.Equal(got, model) {
		t.Errorf("Add(%v, %v) = %v, %d, want %v, %d", l, e, got, err, model, want)
	}
}

func wantRemove(t *testing.T, l []dir.Entry, name string, want ...dir.Entry) {
	t.Helper()
	if got, e := dir.Remove(l, name); e != api.OK || !slices.Equal(got, want) {
		t.Errorf("Remove(%v, %q) = %v, %d, want %v", l, name, got, e, want)
	}
}

func wantNoRemove(t *testing.T, l []dir.Entry, name string) {
	t.Helper()
	if got, e := dir.Remove(l, name); e != api.ErrNoEnt || len(got) != 0 {
		t.Errorf("Remove(%v, %q) = %v, %d, want nothing, %d", l, name, got, e, api.ErrNoEnt)
	}
}

func wantAfter(t *testing.T, l []dir.Entry, cookie uint64, most int, want []dir.Entry, all bool) {
	t.Helper()
	if got, end := dir.After(l, cookie, most); end != all || !slices.Equal(got, want) {
		t.Errorf("After(%v, %d, %d) = %v, %t, want %v, %t", l, cookie, most, got, end, want, all)
	}
}

// P8.1

func TestNameLengths(t *testing.T) {
	for n := range 300 {
		want := api.ErrName
		if n >= 1 && n <= 24 {
			want = api.OK
		}
		wantName(t, strings.Repeat("a", n), want)
		wantName(t, strings.Repeat("\xff", n), want)
	}
	wantName(t, strings.Repeat("a", 1<<16+1), api.ErrName)
	wantName(t, strings.Repeat("é", 12), api.OK) // bytes count, not letters
	wantName(t, strings.Repeat("é", 12)+"a", api.ErrName)
	wantName(t, strings.Repeat("é", 13), api.ErrName)
	wantName(t, strings.Repeat("é", 24), api.ErrName)
}

func TestNameBytes(t *testing.T) {
	for c := range 256 {
		for n := 1; n <= 24; n++ {
			for at := range n {
				s := []byte(strings.Repeat("x", n))
				s[at] = byte(c)
				want := api.OK
				if c == 0 || c == '/' || n == 1 && c == '.' {
					want = api.ErrName
				}
				wantName(t, string(s), want)
			}
		}
	}
}

func TestNameOfDots(t *testing.T) {
	for n := range 30 {
		want := api.ErrName
		if n >= 3 && n <= 24 {
			want = api.OK
		}
		wantName(t, strings.Repeat(".", n), want)
	}
	for _, s := range []string{".a", "a.", "..a", "a..", "a.b", ". ", " .", ".\n", "..\xff", ".\xc2", "\\", "..\\", " ", "-", "∕", "․", "\u0100"} {
		wantName(t, s, api.OK)
	}
	for _, s := range []string{"./", "/.", "../", "/..", ".\x00", "\x00.", "..\x00", "\x00..", "/", "//", "\x00", "\x00\x00", "a/b", "/a", "a/", "\xff/", "\xff\x00", "é/é"} {
		wantName(t, s, api.ErrName)
	}
}

func TestPutOfNothing(t *testing.T) {
	wantPut(t, nil, nil)
	wantPut(t, []dir.Entry{}, nil)
	wantPut(t, named("a", "b")[:0], nil)
}

func TestPutEveryField(t *testing.T) {
	l := []dir.Entry{
		{Cookie: 0x0102030405060708, Handle: api.Handle{Ino: 0x090a0b0c, Gen: 0x0d0e0f10}, Name: "abcde"},
		{Cookie: 0x8000000000000000, Handle: api.Handle{}, Name: "\xff\x01.\n"},
		{Cookie: math.MaxUint64, Handle: api.Handle{Ino: math.MaxUint32, Gen: 1 << 31}, Name: "b"},
	}
	want := []byte{
		1, 2, 3, 4, 5, 6, 7, 8, 9, 10, 11, 12, 13, 14, 15, 16, 0, 0, 0, 5, 'a', 'b', 'c', 'd', 'e', 0, 0, 0,
		128, 0, 0, 0, 0, 0, 0, 0, 0, 0, 0, 0, 0, 0, 0, 0, 0, 0, 0, 4, 255, 1, '.', '\n',
		255, 255, 255, 255, 255, 255, 255, 255, 255, 255, 255, 255, 128, 0, 0, 0, 0, 0, 0, 1, 'b', 0, 0, 0,
	}
	wantPut(t, l, want)
	wantGet(t, want, l)
}

func TestNamesOfValidEntries(t *testing.T) {
	for n := range 25 {
		wantValid(t, []dir.Entry{entry(3, strings.Repeat("z", n))}, n > 0)
	}
	for _, s := range []string{"", ".", "..", "/", "\x00", "a/b", "a\x00b", "aaaaaaaaaaaaaaaaaaaaaaa/", "aaaaaaaaaaaaaaaaaaaaaaa\x00"} {
		for at := range 4 {
			l := named("a", "b", "c", "d")
			wantValid(t, l, true)
			l[at].Name = s
			wantValid(t, l, false)
			wantValid(t, l[at:at+1], false)
			wantValid(t, l[:at], true)
		}
	}
	// Get refuses it sooner, as too big.
	if b, e := dir.Put(named("a", strings.Repeat("b", 25))); e != api.ErrForm || len(b) != 0 {
		t.Errorf("%v, %d", b, e)
	}
}

func TestEqualNamesOfEntries(t *testing.T) {
	for count := 2; count <= 12; count++ {
		for i := range count {
			for k := range i {
				var l []dir.Entry
				for n := range count {
					l = append(l, entry(uint64(n)*3+1, strings.Repeat("q", n+1)))
				}
				wantValid(t, l, true)
				l[i].Name = l[k].Name
				wantValid(t, l, false)
			}
		}
	}
	wantValid(t, named("a", "A", "a ", " a", "aa", "a\x01", "\xff", "\xfe", "�", "é", "e\u0301"), true)
}

func TestCookiesOfValidEntries(t *testing.T) {
	valid := [][]uint64{
		{1}, {2}, {math.MaxUint64}, {1, 2}, {1, math.MaxUint64}, {5, 6, 7}, {1 << 31, 1 << 32, 1 << 63},
		{math.MaxInt64, 1 << 63}, {1, 1<<32 + 1, 2<<32 + 1}, {math.MaxUint64 - 1, math.MaxUint64},
	}
	for _, l := range valid {
		wantValid(t, cookies(l...), true)
	}
	refused := [][]uint64{
		{0}, {0, 1}, {1, 0}, {1, 1}, {2, 1}, {1, 2, 2}, {1, 1, 2}, {1, 3, 2}, {2, 1, 3}, {3, 1, 2}, {1, 2, 0}, {1, 0, 2}, {0, 0}, {0, 1, 2},
		{1 << 63, math.MaxInt64}, {1 << 63, 1}, {math.MaxUint64, 1}, {math.MaxUint64, math.MaxUint64}, {math.MaxUint64, 0},
		{1 << 32, 1}, {1<<32 + 1, 2}, {1, 5, 3, 6}, {1, 5, 6, 4},
	}
	for _, l := range refused {
		wantValid(t, cookies(l...), false)
	}
}

func TestManyEntries(t *testing.T) {
	var l []dir.Entry
	for i := range 3000 {
		l = append(l, entry(uint64(i)*uint64(i)+1, "entry "+strconv.Itoa(i)))
	}
	wantValid(t, l, true)
	l[2999].Name = l[0].Name
	wantValid(t, l, false)
}

func TestGetOfNothing(t *testing.T) {
	wantGet(t, nil, nil)
	wantGet(t, []byte{}, nil)
	wantGet(t, plainBytes(named("a"))[:0], nil) // bytes behind it are not its own
}

func TestGetOfZeros(t *testing.T) {
	for size := 1; size < 100; size++ {
		want := api.ErrForm // entries without a name
		if size%20 != 0 {
			want = api.ErrShort
		}
		wantNoGet(t, make([]byte, size), want)
	}
}

func TestGetTooShort(t *testing.T) {
	for n := 1; n <= 24; n++ {
		l := []dir.Entry{entry(1, "first"), entry(9, strings.Repeat("m", n)), entry(10, "l")}
		b := plainBytes(l)
		whole := map[int]int{0: 0, len(plainBytes(l[:1])): 1, len(plainBytes(l[:2])): 2, len(b): 3}
		for size := range len(b) + 1 {
			if count, ok := whole[size]; ok {
				wantGet(t, b[:size], l[:count])
			} else {
				wantNoGet(t, b[:size], api.ErrShort)
			}
		}
		for range 19 {
			b = append(b, 0)
			wantNoGet(t, b, api.ErrShort)
		}
	}
}

func TestGetTooLongName(t *testing.T) {
	for _, length := range []uint32{25, 26, 27, 28, 29, 32, 255, 256, 257, 1 << 16, 1<<24 + 1, math.MaxInt32, 1 << 31, 1<<31 + 1, math.MaxUint32 - 2, math.MaxUint32} {
		for _, before := range [][]dir.Entry{nil, named("a"), cookies(0), named("a", "a")} {
			b := append(plainBytes(before), plainBytes(cookies(1<<40))...)
			binary.BigEndian.PutUint32(b[len(plainBytes(before))+16:], length)
			for range 60 { // neither bytes that are missing nor bytes that are there change it
				wantNoGet(t, b, api.ErrBig)
				b = append(b, 'x')
			}
			wantNoGet(t, b[:len(plainBytes(before))+20], api.ErrBig)
			wantNoGet(t, b[:len(plainBytes(before))+19], api.ErrShort)
		}
	}
	wantNoGet(t, plainBytes(named(strings.Repeat("a", 25))), api.ErrBig)
	wantNoGet(t, plainBytes(named(strings.Repeat("a", 28))), api.ErrBig)
	wantGet(t, plainBytes(named(strings.Repeat("a", 24))), named(strings.Repeat("a", 24)))
}

func TestGetPadding(t *testing.T) {
	for n := 1; n <= 24; n++ {
		l := []dir.Entry{entry(1, strings.Repeat("m", n)), entry(2, "next")}
		end := len(plainBytes(l[:1]))
		for at := 20 + n; at < end; at++ {
			for _, c := range []byte{1, 'm', 128, 255} {
				b := plainBytes(l)
				b[at] = c
				wantNoGet(t, b, api.ErrForm)
				wantNoGet(t, b[:end], api.ErrForm)
				wantNoGet(t, b[:end+9], api.ErrForm) // the first error of xdr, not the next one
				wantNoGet(t, b[:end-1], api.ErrShort)
			}
		}
	}
}

func TestGetReadsBeforeItRefuses(t *testing.T) {
	refused := [][]dir.Entry{cookies(0), cookies(2, 1), cookies(2, 2), named(""), named("."), named(".."), named("a/b"), named("a\x00"), named("same", "same")}
	for _, l := range refused {
		b := plainBytes(l)
		wantNoGet(t, b, api.ErrForm)
		wantNoGet(t, append(bytes.Clone(b), 0), api.ErrShort)
		wantNoGet(t, append(bytes.Clone(b), plainBytes(named("z"))[:23]...), api.ErrShort)
		wantNoGet(t, append(bytes.Clone(b), plainBytes(named(strings.Repeat("z", 25)))...), api.ErrBig)
		wantNoGet(t, append(bytes.Clone(b), plainBytes(cookies(9))...), api.ErrForm)
	}
}

func TestGetIsNewMemory(t *testing.T) {
	want := named("one", "two", "three")
	b := plainBytes(want)
	first, _ := dir.Get(b)
	second, _ := dir.Get(b)
	clear(first)
	clear(b)
	if !slices.Equal(second, want) {
		t.Errorf("the result became %v", second)
	}
}

func TestPutIsNewMemory(t *testing.T) {
	l := named("one", "two", "three")
	first, _ := dir.Put(l)
	second, _ := dir.Put(l)
	clear(first)
	clear(l)
	if !bytes.Equal(second, plainBytes(named("one", "two", "three"))) {
		t.Errorf("the result became %v", second)
	}
}

// P8.2

func TestFind(t *testing.T) {
	l := named("a", "b", "a", "", "c", "b", "/", "")
	for name, want := range map[string]int{"a": 0, "b": 1, "": 3, "c": 4, "/": 6, "d": -1, "A": -1, "aa": -1, "a\x00": -1, " a": -1, ".": -1} {
		wantFind(t, l, name, want)
		wantFind(t, nil, name, -1)
		wantFind(t, []dir.Entry{}, name, -1)
		wantFind(t, l[:0], name, -1)
	}
	wantFind(t, l[2:], "a", 0)
	wantFind(t, l[3:], "a", -1)
	wantFind(t, l[:4], "c", -1)
}

func TestAddKnown(t *testing.T) {
	l := named("a", "b", "c")
	wantAdd(t, nil, entry(1, "a"), api.OK)
	wantAdd(t, []dir.Entry{}, entry(math.MaxUint64, "a"), api.OK)
	wantAdd(t, l, entry(4, "d"), api.OK)
	wantAdd(t, l, entry(1<<63, strings.Repeat("d", 24)), api.OK)
	wantAdd(t, l, entry(math.MaxUint64, "d"), api.OK)
	wantAdd(t, l, dir.Entry{Cookie: 4, Name: "..."}, api.OK)
}

func TestAddOfAName(t *testing.T) {
	for _, s := range []string{"", ".", "..", "/", "a/b", "\x00", "a\x00", strings.Repeat("a", 25)} {
		for _, cookie := range []uint64{0, 1, 3, 4, math.MaxUint64} {
			wantAdd(t, nil, entry(cookie, s), api.ErrName)
			wantAdd(t, named("a", "b", "c"), entry(cookie, s), api.ErrName)
			wantAdd(t, named("a", s, "c"), entry(cookie, s), api.ErrName) // ahead of a name that exists
		}
	}
}

func TestAddOfANameThatExists(t *testing.T) {
	for _, s := range []string{"a", "b", "c"} {
		for _, cookie := range []uint64{0, 1, 3, 4, math.MaxUint64} { // ahead of a cookie that is too low
			wantAdd(t, named("a", "b", "c"), entry(cookie, s), api.ErrExist)
		}
	}
	wantAdd(t, named("a", "b", "a"), entry(9, "a"), api.ErrExist)
	wantAdd(t, named("a", "", "b"), entry(9, "b"), api.ErrExist)
}

func TestAddOfACookie(t *testing.T) {
	wantAdd(t, nil, entry(0, "a"), api.ErrCookie)
	known := []struct {
		last, cookie uint64
		want         api.Errno
	}{
		{1, 0, api.ErrCookie}, {1, 1, api.ErrCookie}, {1, 2, api.OK},
		{7, 6, api.ErrCookie}, {7, 7, api.ErrCookie}, {7, 8, api.OK},
		{1 << 32, 1<<32 - 1, api.ErrCookie}, {1 << 32, 1<<32 + 1, api.OK}, {1<<32 + 1, 2, api.ErrCookie}, {2, 1<<32 + 1, api.OK},
		{math.MaxInt64, 1 << 63, api.OK}, {1 << 63, math.MaxInt64, api.ErrCookie}, {1 << 63, 1, api.ErrCookie}, {1 << 63, 1<<63 + 1, api.OK},
		{math.MaxUint64, math.MaxUint64, api.ErrCookie}, {math.MaxUint64, 1, api.ErrCookie}, {math.MaxUint64 - 1, math.MaxUint64, api.OK},
		{0, 0, api.ErrCookie}, {0, 1, api.OK},
	}
	for _, c := range known {
		wantAdd(t, cookies(c.last), entry(c.cookie, "new"), c.want)
		wantAdd(t, cookies(math.MaxUint64, c.last), entry(c.cookie, "new"), c.want) // only the last one counts
		wantAdd(t, cookies(0, 0, c.last), entry(c.cookie, "new"), c.want)
	}
}

func TestRemoveKnown(t *testing.T) {
	l := named("a", "b", "a", "", "b")
	wantRemove(t, l, "a", l[1], l[2], l[3], l[4])
	wantRemove(t, l, "b", l[0], l[2], l[3], l[4])
	wantRemove(t, l, "", l[0], l[1], l[2], l[4])
	wantRemove(t, l[1:], "a", l[1], l[3], l[4])
	wantRemove(t, l[2:], "b", l[2], l[3])
	wantRemove(t, l[:1], "a")
	for _, name := range []string{"c", "A", "aa", "a\x00", ".", "/", strings.Repeat("a", 25)} {
		wantNoRemove(t, l, name)
		wantNoRemove(t, nil, name)
	}
	wantNoRemove(t, nil, "")
	wantNoRemove(t, []dir.Entry{}, "a")
	wantNoRemove(t, l[:0], "a")
	wantNoRemove(t, l[:1], "b")
}

func TestAfterKnown(t *testing.T) {
	l := cookies(1, 2, 3)
	wantAfter(t, l, 1, 1, l[1:2], false)
	wantAfter(t, l, 1, 2, l[1:], true)
	wantAfter(t, l, 1, 3, l[1:], true)
	wantAfter(t, l, 0, 2, l[:2], false)
	wantAfter(t, l, 0, 3, l, true)
	wantAfter(t, l, 2, 1, l[2:], true)
	wantAfter(t, l, 2, 0, nil, false)
	wantAfter(t, l, 3, 0, nil, true)
	wantAfter(t, l, 3, 1, nil, true)
	wantAfter(t, l, math.MaxUint64, 1, nil, true)
	l = cookies(5, math.MaxInt64, 1<<63, math.MaxUint64)
	wantAfter(t, l, 4, 9, l, true)
	wantAfter(t, l, 5, 9, l[1:], true)
	wantAfter(t, l, 6, 9, l[1:], true)
	wantAfter(t, l, math.MaxInt64, 9, l[2:], true)
	wantAfter(t, l, 1<<63, 9, l[3:], true)
	wantAfter(t, l, math.MaxUint64-1, 9, l[3:], true)
	wantAfter(t, l, math.MaxUint64, 9, nil, true)
}

func TestAfterLimits(t *testing.T) {
	l := cookies(1, 2, 3)
	for _, most := range []int{math.MinInt, -1 << 32, -2, -1, 0} {
		for _, cookie := range []uint64{0, 1, 2} {
			wantAfter(t, l, cookie, most, nil, false)
		}
		for _, cookie := range []uint64{3, 4, math.MaxUint64} {
			wantAfter(t, l, cookie, most, nil, true)
			wantAfter(t, nil, cookie, most, nil, true)
			wantAfter(t, l[:0], cookie, most, nil, true)
		}
		wantAfter(t, nil, 0, most, nil, true)
	}
	for _, most := range []int{3, 4, 1 << 32, math.MaxInt} {
		wantAfter(t, l, 0, most, l, true)
		wantAfter(t, l, 2, most, l[2:], true)
		wantAfter(t, nil, 0, most, nil, true)
	}
}

// The first entry behind the cookie is where it starts, whatever the cookies of those that follow are.
func TestAfterUnordered(t *testing.T) {
	l := cookies(3, 9, 2, 9, 0, 7)
	wantAfter(t, l, 3, 9, l[1:], true)
	wantAfter(t, l, 3, 3, l[1:4], false)
	wantAfter(t, l, 2, 9, l, true)
	wantAfter(t, l, 8, 5, l[1:], true)
	wantAfter(t, l, 8, 4, l[1:5], false)
	wantAfter(t, l, 9, 9, nil, true)
	wantAfter(t, cookies(0, 0), 0, 9, nil, true)
	wantAfter(t, cookies(1, 0), 0, 1, cookies(1), false)
}

// someEntries returns entries whose cookies and names are seldom far apart, valid or not.
func someEntries(seed *uint64, most int) []dir.Entry {
	var l []dir.Entry
	cookie := uint64(0)
	for range below(seed, most+1) {
		if cookie += uint64(below(seed, 6)); below(seed, 40) == 0 {
			cookie = uint64(below(seed, 20))
		}
		l = append(l, entry(cookie, someName(seed)))
	}
	return l
}

// someName returns one of some fifty names, of which few are not valid.
func someName(seed *uint64) string {
	if below(seed, 30) == 0 {
		return []string{"", ".", "..", "a/b", "\x00", strings.Repeat("n", 25)}[below(seed, 6)]
	}
	return strings.Repeat("n", below(seed, 24)+1-below(seed, 2)) + []string{"", "é"}[below(seed, 2)]
}

func TestAgainstPlainModel(t *testing.T) {
	seed := uint64(1)
	for range 20000 {
		l := someEntries(&seed, 8)
		before := slices.Clone(l)
		name := someName(&seed)
		wantFind(t, l, name, plainFind(l, name))
		e := entry(uint64(below(&seed, 40)), name)
		_, want := plainAdd(l, e)
		wantAdd(t, l, e, want)
		if rest, err := plainRemove(l, name); err == api.OK {
			wantRemove(t, l, name, rest...)
		} else {
			wantNoRemove(t, l, name)
		}
		cookie, most := uint64(below(&seed, 40)), below(&seed, 12)-2
		part, all := plainAfter(l, cookie, most)
		wantAfter(t, l, cookie, most, part, all)
		if !slices.Equal(l, before) {
			t.Fatalf("the entries %v became %v", before, l)
		}
	}
}

// wantNewMemory calls twice with entries that have others behind them, and changes all that was passed in and returned.
func wantNewMemory(t *testing.T, what string, call func([]dir.Entry) []dir.Entry) {
	t.Helper()
	room := named("a", "b", "c", "d", "e")
	before := slices.Clone(room)
	first, second := call(room[:3]), call(room[:3])
	want := slices.Clone(second)
	clear(first)
	_ = append(first, entry(77, "w"), entry(78, "x"), entry(79, "y"))
	if !slices.Equal(room, before) {
		t.Errorf("%s: the argument became %v", what, room)
	}
	clear(room)
	if !slices.Equal(second, want) {
		t.Errorf("%s: the result became %v", what, second)
	}
}

func TestResultsAreNewMemory(t *testing.T) {
	wantNewMemory(t, "Add", func(l []dir.Entry) []dir.Entry {
		out, _ := dir.Add(l, entry(9, "z"))
		return out
	})
	for _, name := range []string{"a", "b", "c"} {
		wantNewMemory(t, "Remove of "+name, func(l []dir.Entry) []dir.Entry {
			out, _ := dir.Remove(l, name)
			return out
		})
	}
	for cookie := range uint64(4) {
		for most := -1; most < 5; most++ {
			wantNewMemory(t, "After "+strconv.Itoa(int(cookie))+" at most "+strconv.Itoa(most), func(l []dir.Entry) []dir.Entry {
				out, _ := dir.After(l, cookie, most)
				return out
			})
		}
	}
	wantNewMemory(t, "Find", func(l []dir.Entry) []dir.Entry {
		dir.Find(l, "b")
		return nil
	})
	wantNewMemory(t, "Put", func(l []dir.Entry) []dir.Entry {
		dir.Put(l)
		return nil
	})
}

// Two results from one list may not meet in the room that is left behind it.
func TestAddTwiceToOneList(t *testing.T) {
	var l []dir.Entry
	for i := range 20 {
		first, _ := dir.Add(l, entry(uint64(i)+1, "first "+strconv.Itoa(i)))
		second, _ := dir.Add(l, entry(uint64(i)+1, "second "+strconv.Itoa(i)))
		if first[i].Name != "first "+strconv.Itoa(i) || second[i].Name != "second "+strconv.Itoa(i) || len(l) != i {
			t.Errorf("%v, %v", first, second)
		}
		l = first
	}
}

// P8.3

func TestGetReturnsWhatPutEncoded(t *testing.T) {
	seed := uint64(2)
	accepted := 0
	for range 20000 {
		l := someEntries(&seed, 8)
		b, e := dir.Put(l)
		if want := plainValid(l); want != (e == api.OK) {
			t.Errorf("Put(%v) returned %d", l, e)
		}
		if e == api.OK {
			accepted++
			wantGet(t, b, l)
		}
	}
	if accepted < 2000 {
		t.Errorf("only %d lists were accepted", accepted)
	}
}

// What Get accepts has one encoding only, even of bytes that Put has not made.
func TestPutEncodesWhatGetReturned(t *testing.T) {
	seed := uint64(3)
	accepted := 0
	for range 40000 {
		b := plainBytes(someEntries(&seed, 4))
		for range below(&seed, 3) {
			if len(b) > 0 {
				b[below(&seed, len(b))] = byte(noise(&seed))
			}
		}
		before := bytes.Clone(b)
		l, e := dir.Get(b)
		if !bytes.Equal(b, before) {
			t.Fatalf("the bytes %v became %v", before, b)
		}
		if e != api.OK {
			continue
		}
		accepted++
		if !plainValid(l) {
			t.Errorf("Get(%v) = %v, which is not valid", b, l)
		}
		wantPut(t, l, b)
	}
	if accepted < 2000 {
		t.Errorf("only %d byte strings were accepted", accepted)
	}
}

// readAll reads a directory in parts, each from the last cookie of the one before, and calls between after each part but the last one. It returns what it read, and the entries that remain.
func readAll(l []dir.Entry, most func() int, between func([]dir.Entry) []dir.Entry) (seen, remain []dir.Entry) {
	cookie := uint64(0)
	for {
		part, all := dir.After(l, cookie, most())
		seen = append(seen, part...)
		if len(part) > 0 {
			cookie = part[len(part)-1].Cookie
		}
		if all {
			return seen, l
		}
		l = between(l)
	}
}

func TestReadInPartsOfAnySize(t *testing.T) {
	for count := range 12 {
		var l []dir.Entry
		for i := range count {
			l = append(l, entry(uint64(i)*uint64(i)+1, "n"+strconv.Itoa(i)))
		}
		for most := 1; most < 14; most++ {
			seen, _ := readAll(l, func() int { return most }, func(l []dir.Entry) []dir.Entry { return l })
			if !slices.Equal(seen, l) {
				t.Errorf("read %v, want %v", seen, l)
			}
		}
	}
}

// changer changes a directory at random, and never uses a cookie twice.
type changer struct{ seed, cookie uint64 }

func (c *changer) add(t *testing.T, l []dir.Entry) []dir.Entry {
	c.cookie += uint64(below(&c.seed, 3)) + 1
	l, e := dir.Add(l, entry(c.cookie, "n"+strconv.FormatUint(c.cookie, 10)))
	if e != api.OK {
		t.Errorf("Add returned %d", e)
	}
	return l
}

func (c *changer) change(t *testing.T, l []dir.Entry) []dir.Entry {
	for range below(&c.seed, 4) {
		if len(l) == 0 || below(&c.seed, 3) == 0 {
			l = c.add(t, l)
			continue
		}
		rest, e := dir.Remove(l, l[below(&c.seed, len(l))].Name)
		if e != api.OK {
			t.Errorf("Remove returned %d", e)
		}
		l = rest
	}
	return l
}

func TestReadWhileItChanges(t *testing.T) {
	for run := range 2000 {
		c := &changer{seed: uint64(run)}
		var l []dir.Entry
		for range below(&c.seed, 12) {
			l = c.add(t, l)
		}
		seen, remain := readAll(l, func() int { return below(&c.seed, 4) }, func(l []dir.Entry) []dir.Entry { return c.change(t, l) })
		times := map[uint64]int{}
		for i, e := range seen {
			times[e.Cookie]++
			if i > 0 && e.Cookie <= seen[i-1].Cookie {
				t.Errorf("read %v, which is not in order", seen)
			}
		}
		for _, e := range remain {
			if times[e.Cookie] != 1 {
				t.Errorf("run %d: %v was read %d times", run, e, times[e.Cookie])
			}
		}
	}
}
