package ops_test

import (
	"encoding/binary"
	"math"

	"removalist/api"
	"removalist/call"
	"removalist/dir"
	"removalist/ops"
	"removalist/slot"
)

// noise is the next of a fixed sequence of numbers without a visible pattern.
func noise(x *uint64) uint32 {
	*x = *x*6364136223846793005 + 1442695040888963407
	return uint32(*x >> 32)
}

// below is noise from 0 to n-1.
func below(x *uint64, n int) int { return int(noise(x) % uint32(n)) }

// oneOf is one of l.
func oneOf[T any](x *uint64, l ...T) T { return l[below(x, len(l))] }

// plainThing is a slot; the entries of a directory are in a list.
type plainThing struct {
	slot.Slot
	list []dir.Entry
}

// plain is the document's words on things, told step by step, each with its error.
type plain struct {
	at     [24]plainThing
	change uint64
	room   int
}

// entryBytes is how the document encodes entries.
func entryBytes(l ...dir.Entry) []byte {
	var b []byte
	for _, e := range l {
		b = binary.BigEndian.AppendUint64(b, e.Cookie)
		b = binary.BigEndian.AppendUint32(b, e.Handle.Ino)
		b = binary.BigEndian.AppendUint32(b, e.Handle.Gen)
		b = binary.BigEndian.AppendUint32(b, uint32(len(e.Name)))
		b = append(b, e.Name...)
		for len(b)%4 != 0 {
			b = append(b, 0)
		}
	}
	return b
}

func plainOf(t ops.Things) *plain {
	p := &plain{change: t.Change, room: t.Room}
	for i, s := range t.Slots {
		p.at[i].Slot = s
		p.at[i].Data = append([]byte{}, s.Data...)
		if s.Kind == 2 {
			l, e := dir.Get(s.Data)
			if e != api.OK {
				panic("entries of the test")
			}
			p.at[i].list = l
		}
	}
	return p
}

func (p *plain) things() ops.Things {
	t := ops.Things{Change: p.change, Room: p.room}
	for i := range p.at {
		s := p.at[i].Slot
		if s.Kind == 2 {
			s.Data = entryBytes(p.at[i].list...)
		}
		t.Slots = append(t.Slots, s)
	}
	return t
}

// plainDo is Do of valid things.
func plainDo(t ops.Things, c call.Call) (ops.Things, call.Reply) {
	p := plainOf(t)
	r := call.Reply{Client: c.Client, Xid: c.Xid}
	if e := p.do(c, &r); e != api.OK {
		return t, call.Reply{Client: c.Client, Xid: c.Xid, Status: e}
	}
	return p.things(), r
}

func (p *plain) do(c call.Call, r *call.Reply) api.Errno {
	switch c.Op {
	case call.Lookup:
		return p.lookup(c, r)
	case call.Getattr, call.Commit, call.Fsstat:
		return p.asks(c, r)
	case call.Setattr:
		return p.setattr(c, r)
	case call.Read, call.Readlink:
		return p.reads(c, r)
	case call.Write:
		return p.write(c, r)
	case call.Readdir:
		return p.readdir(c, r)
	case call.Create, call.Mkdir, call.Symlink:
		return p.creates(c, r)
	case call.Remove, call.Rmdir:
		return p.removes(c, r)
	case call.Link:
		return p.link(c, r)
	case call.Rename:
		return p.rename(c, r)
	}
	return api.ErrInval
}

// live is the index of the thing of a handle.
func (p *plain) live(h api.Handle) (int, api.Errno) {
	for i := range p.at {
		if uint32(i) == h.Ino && p.at[i].Kind != 0 && p.at[i].Gen == h.Gen {
			return i, api.OK
		}
	}
	return 0, api.ErrStale
}

func (p *plain) dirOf(h api.Handle) (int, api.Errno) {
	i, e := p.live(h)
	if e == api.OK && p.at[i].Kind != 2 {
		e = api.ErrNotDir
	}
	return i, e
}

// entry is the handle under a name.
func (p *plain) entry(d int, name string) (api.Handle, bool) {
	for _, x := range p.at[d].list {
		if x.Name == name {
			return x.Handle, true
		}
	}
	return api.Handle{}, false
}

func (p *plain) report(i int, r *call.Reply) api.Errno {
	s := p.at[i]
	size := len(s.Data)
	if s.Kind == 2 {
		size = len(entryBytes(s.list...))
	}
	r.At = api.Handle{Ino: uint32(i), Gen: s.Gen}
	r.Attr = call.Attr{Kind: s.Kind, Mode: s.Mode, Links: s.Links, Size: uint32(size), Change: s.Change}
	return api.OK
}

func (p *plain) used() int {
	sum := 0
	for _, s := range p.things().Slots {
		for n := len(s.Data); n > 0; n -= 96 {
			sum++
		}
	}
	return sum
}

func (p *plain) touch(l ...int) api.Errno {
	p.change++
	for _, i := range l {
		p.at[i].Change = p.change
	}
	if p.used() > p.room {
		return api.ErrNoSpc
	}
	return api.OK
}

func (p *plain) addEntry(d int, name string, i int) api.Errno {
	if p.at[d].Cookie == math.MaxUint64 {
		return api.ErrCookie
	}
	p.at[d].Cookie++
	p.at[d].list = append(p.at[d].list, dir.Entry{Cookie: p.at[d].Cookie, Handle: api.Handle{Ino: uint32(i), Gen: p.at[i].Gen}, Name: name})
	if len(entryBytes(p.at[d].list...)) > 768 {
		return api.ErrNoSpc
	}
	return api.OK
}

func (p *plain) cutEntry(d int, name string) {
	var l []dir.Entry
	for _, x := range p.at[d].list {
		if x.Name != name {
			l = append(l, x)
		}
	}
	p.at[d].list = l
}

func (p *plain) unlink(i int) {
	p.at[i].Links--
	if p.at[i].Links == 0 {
		p.at[i] = plainThing{Slot: slot.Slot{Ino: uint32(i), Gen: p.at[i].Gen, Change: p.at[i].Change}}
	}
}

func (p *plain) lookup(c call.Call, r *call.Reply) api.Errno {
	d, e := p.dirOf(c.At)
	if e != api.OK {
		return e
	}
	if e := dir.Name(c.Name); e != api.OK {
		return e
	}
	h, ok := p.entry(d, c.Name)
	if !ok {
		return api.ErrNoEnt
	}
	i, e := p.live(h)
	if e != api.OK {
		return e
	}
	return p.report(i, r)
}

func (p *plain) asks(c call.Call, r *call.Reply) api.Errno {
	i, e := p.live(c.At)
	if e != api.OK {
		return e
	}
	if c.Op == call.Commit {
		r.Verf = 1
	}
	if c.Op == call.Fsstat && p.room > p.used() {
		r.Free = uint32(uint64(p.room - p.used()))
	}
	return p.report(i, r)
}

func noFile(s plainThing) api.Errno {
	switch s.Kind {
	case 2:
		return api.ErrIsDir
	case 3:
		return api.ErrInval
	}
	return api.OK
}

func (p *plain) setattr(c call.Call, r *call.Reply) api.Errno {
	i, e := p.live(c.At)
	if e != api.OK {
		return e
	}
	s := &p.at[i]
	if c.Offset == 1 {
		if e := noFile(*s); e != api.OK {
			return e
		}
		if c.Count > 768 {
			return api.ErrFBig
		}
		for len(s.Data) < int(c.Count) {
			s.Data = append(s.Data, 0)
		}
		s.Data = s.Data[:c.Count]
	}
	if c.Offset > 1 {
		return api.ErrInval
	}
	s.Mode = c.Mode & 0x1ff
	if e := p.touch(i); e != api.OK {
		return e
	}
	return p.report(i, r)
}

func (p *plain) reads(c call.Call, r *call.Reply) api.Errno {
	i, e := p.live(c.At)
	if e != api.OK {
		return e
	}
	s := p.at[i]
	if c.Op == call.Readlink {
		if s.Kind != 3 {
			return api.ErrInval
		}
		r.Data = s.Data
		return p.report(i, r)
	}
	if e := noFile(s); e != api.OK {
		return e
	}
	r.Eof = true
	for at, b := range s.Data {
		if uint64(at) < c.Offset {
			continue
		}
		if uint64(at)-c.Offset >= uint64(c.Count) {
			r.Eof = false
			break
		}
		r.Data = append(r.Data, b)
	}
	return p.report(i, r)
}

func (p *plain) write(c call.Call, r *call.Reply) api.Errno {
	i, e := p.live(c.At)
	if e != api.OK {
		return e
	}
	s := &p.at[i]
	if e := noFile(*s); e != api.OK {
		return e
	}
	if c.Offset > 768 || c.Offset+uint64(len(c.Data)) > 768 {
		return api.ErrFBig
	}
	if len(c.Data) == 0 {
		return p.report(i, r)
	}
	for k, b := range c.Data {
		for len(s.Data) <= int(c.Offset)+k {
			s.Data = append(s.Data, 0)
		}
		s.Data[int(c.Offset)+k] = b
	}
	if e := p.touch(i); e != api.OK {
		return e
	}
	return p.report(i, r)
}

func (p *plain) readdir(c call.Call, r *call.Reply) api.Errno {
	d, e := p.dirOf(c.At)
	if e != api.OK {
		return e
	}
	if c.Count == 0 {
		return api.ErrInval
	}
	if c.Offset != 0 && c.Verf != uint64(p.at[d].Gen) {
		return api.ErrCookie
	}
	r.Eof = true
	for _, x := range p.at[d].list {
		if x.Cookie <= c.Offset {
			continue
		}
		if uint32(len(r.Entries)) == c.Count || len(r.Entries) == 24 {
			r.Eof = false
			break
		}
		r.Entries = append(r.Entries, x)
	}
	r.Verf = uint64(p.at[d].Gen)
	return p.report(d, r)
}

func (p *plain) creates(c call.Call, r *call.Reply) api.Errno {
	d, e := p.dirOf(c.At)
	if e != api.OK {
		return e
	}
	if e := dir.Name(c.Name); e != api.OK {
		return e
	}
	if c.Op == call.Create && c.Count > 2 {
		return api.ErrInval
	}
	h, exists := p.entry(d, c.Name)
	if exists && c.Op != call.Create {
		return api.ErrExist
	}
	if exists {
		i, e := p.live(h)
		if e != api.OK {
			return e
		}
		s := p.at[i]
		if s.Kind == 1 && c.Count == 0 || s.Kind == 1 && c.Count == 1 && c.Verf != 0 && c.Verf == s.Verf {
			return p.report(i, r)
		}
		return api.ErrExist
	}
	if c.Op == call.Symlink && (len(c.Data) < 1 || len(c.Data) > 768) {
		return api.ErrInval
	}
	return p.make(d, c, r)
}

func (p *plain) make(d int, c call.Call, r *call.Reply) api.Errno {
	i := 0
	for i < 24 && p.at[i].Kind != 0 {
		i++
	}
	if i == 24 {
		return api.ErrNoSpc
	}
	s := slot.Slot{Ino: uint32(i), Gen: p.at[i].Gen + 1, Links: 1, Mode: c.Mode & 0x1ff}
	switch c.Op {
	case call.Create:
		s.Kind = 1
		if c.Count == 1 {
			s.Verf = c.Verf
		}
	case call.Mkdir:
		s.Kind = 2
	case call.Symlink:
		s.Kind = 3
		s.Data = append([]byte{}, c.Data...)
	}
	p.at[i] = plainThing{Slot: s}
	if e := p.addEntry(d, c.Name, i); e != api.OK {
		return e
	}
	if e := p.touch(i, d); e != api.OK {
		return e
	}
	return p.report(i, r)
}

func (p *plain) removes(c call.Call, r *call.Reply) api.Errno {
	d, e := p.dirOf(c.At)
	if e != api.OK {
		return e
	}
	if e := dir.Name(c.Name); e != api.OK {
		return e
	}
	h, ok := p.entry(d, c.Name)
	if !ok {
		return api.ErrNoEnt
	}
	i, e := p.live(h)
	if e != api.OK {
		return e
	}
	switch {
	case c.Op == call.Remove && p.at[i].Kind == 2:
		return api.ErrIsDir
	case c.Op == call.Rmdir && p.at[i].Kind != 2:
		return api.ErrNotDir
	case c.Op == call.Rmdir && len(p.at[i].list) > 0:
		return api.ErrNotEmpty
	}
	p.cutEntry(d, c.Name)
	p.unlink(i)
	if e := p.touch(i, d); e != api.OK {
		return e
	}
	return p.report(d, r)
}

func (p *plain) link(c call.Call, r *call.Reply) api.Errno {
	i, e := p.live(c.At)
	if e != api.OK {
		return e
	}
	if p.at[i].Kind == 2 {
		return api.ErrIsDir
	}
	d, e := p.dirOf(c.To)
	if e != api.OK {
		return e
	}
	if e := dir.Name(c.ToName); e != api.OK {
		return e
	}
	if _, ok := p.entry(d, c.ToName); ok {
		return api.ErrExist
	}
	if e := p.addEntry(d, c.ToName, i); e != api.OK {
		return e
	}
	p.at[i].Links++
	if e := p.touch(i, d); e != api.OK {
		return e
	}
	return p.report(i, r)
}

// isBelow: by as many steps as there are slots, each of which goes one level down.
func (p *plain) isBelow(d, top int) bool {
	var below [24]bool
	below[top] = true
	for range 24 {
		for i := range p.at {
			if !below[i] {
				continue
			}
			for _, x := range p.at[i].list {
				if k, e := p.dirOf(x.Handle); e == api.OK {
					below[k] = true
				}
			}
		}
	}
	return below[d]
}

func (p *plain) rename(c call.Call, r *call.Reply) api.Errno {
	from, e := p.dirOf(c.At)
	if e != api.OK {
		return e
	}
	to, e := p.dirOf(c.To)
	if e != api.OK {
		return e
	}
	if e := dir.Name(c.Name); e != api.OK {
		return e
	}
	if e := dir.Name(c.ToName); e != api.OK {
		return e
	}
	h, ok := p.entry(from, c.Name)
	if !ok {
		return api.ErrNoEnt
	}
	i, e := p.live(h)
	if e != api.OK {
		return e
	}
	old := -1
	if h, ok := p.entry(to, c.ToName); ok {
		if old, e = p.live(h); e != api.OK {
			return e
		}
		switch {
		case old == i:
			return p.report(i, r)
		case p.at[i].Kind == 2 && p.at[old].Kind != 2:
			return api.ErrNotDir
		case p.at[i].Kind == 2 && len(p.at[old].list) > 0:
			return api.ErrNotEmpty
		case p.at[i].Kind != 2 && p.at[old].Kind == 2:
			return api.ErrIsDir
		}
	}
	if p.at[i].Kind == 2 && p.isBelow(to, i) {
		return api.ErrInval
	}
	touched := []int{from, to, i}
	if old >= 0 {
		p.cutEntry(to, c.ToName)
		p.unlink(old)
		touched = append(touched, old)
	}
	p.cutEntry(from, c.Name)
	if e := p.addEntry(to, c.ToName, i); e != api.OK {
		return e
	}
	if e := p.touch(touched...); e != api.OK {
		return e
	}
	return p.report(i, r)
}
