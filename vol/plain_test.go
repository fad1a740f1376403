package vol_test

import (
	"bytes"
	"strings"

	"removalist/api"
	"removalist/dir"
	"removalist/inode"
	"removalist/slot"
)

// noise is the next of a fixed sequence of numbers without a visible pattern.
func noise(x *uint64) uint32 {
	*x = *x*6364136223846793005 + 1442695040888963407
	return uint32(*x >> 32)
}

// below is noise from 0 to n-1.
func below(x *uint64, n int) int { return int(noise(x) % uint32(n)) }

// wide is noise of 64 bits.
func wide(x *uint64) uint64 { return uint64(noise(x))<<32 | uint64(noise(x)) }

// plain is a volume as the document words it: its blocks, nothing else.
type plain [][]byte

func (p plain) clone() plain {
	out := make(plain, len(p))
	for i, b := range p {
		out[i] = bytes.Clone(b)
	}
	return out
}

func (p plain) room() int { return len(p) - 35 }

// allocated asks the bit of Map, the most significant bit of a byte first.
func (p plain) allocated(at int) bool {
	return at/8 < len(p[9]) && p[9][at/8]&(128>>(at%8)) != 0
}

func (p plain) allocate(at int, taken bool) {
	for taken && len(p[9]) <= at/8 {
		p[9] = append(p[9], 0)
	}
	if taken {
		p[9][at/8] |= 128 >> (at % 8)
	} else if at/8 < len(p[9]) {
		p[9][at/8] &^= 128 >> (at % 8)
	}
}

func (p plain) free() int {
	n := 0
	for at := range p.room() {
		if !p.allocated(at) {
			n++
		}
	}
	return n
}

func (p plain) load(ino int) (slot.Slot, api.Errno) {
	n, e := inode.Get(p[11+ino])
	if e != api.OK {
		return slot.Slot{}, e
	}
	s := slot.Slot{Ino: uint32(ino), Kind: n.Kind, Gen: n.Gen, Links: n.Links, Mode: n.Mode, Change: n.Change, Cookie: n.Cookie, Verf: n.Verf}
	left := int(n.Size)
	for _, at := range n.Blocks {
		if uint64(at) >= uint64(p.room()) {
			return slot.Slot{}, api.ErrForm
		}
		b := p[35+int(at)]
		if left >= 96 && len(b) != 96 || left < 96 && len(b) != left {
			return slot.Slot{}, api.ErrForm
		}
		left -= len(b)
		s.Data = append(s.Data, b...)
	}
	if slot.Check(s) != api.OK {
		return slot.Slot{}, api.ErrForm
	}
	return s, api.OK
}

func (p plain) all() ([]slot.Slot, api.Errno) {
	var l []slot.Slot
	for ino := range 24 {
		s, e := p.load(ino)
		if e != api.OK {
			return nil, e
		}
		l = append(l, s)
	}
	return l, api.OK
}

// save returns the volume after it, p itself with an error.
func (p plain) save(l []slot.Slot) (plain, api.Errno) {
	seen := map[uint32]int{}
	for _, s := range l {
		seen[s.Ino]++
		if slot.Check(s) != api.OK || seen[s.Ino] > 1 {
			return p, api.ErrArg
		}
	}
	out := p.clone()
	trimmed := false
	belonged, selected := map[int]int{}, map[int]int{}
	for _, s := range l {
		n, e := inode.Get(p[11+s.Ino])
		if e != api.OK {
			return p, e
		}
		for _, at := range n.Blocks {
			trimmed = true
			if uint64(at) < uint64(p.room()) {
				belonged[int(at)]++
				out.allocate(int(at), false)
			}
		}
	}
	for _, s := range l {
		n := inode.Inode{Kind: s.Kind, Gen: s.Gen, Links: s.Links, Mode: s.Mode, Size: uint32(len(s.Data)), Change: s.Change, Cookie: s.Cookie, Verf: s.Verf}
		for from := 0; from < len(s.Data); from += 96 {
			at := 0
			for at < out.room() && out.allocated(at) {
				at++
			}
			if at == out.room() {
				return p, api.ErrNoSpc
			}
			trimmed = true
			selected[at]++
			out.allocate(at, true)
			out[35+at] = bytes.Clone(s.Data[from:min(from+96, len(s.Data))])
			n.Blocks = append(n.Blocks, uint32(at))
		}
		out[11+s.Ino], _ = inode.Put(n)
	}
	for at := range belonged {
		if selected[at] == 0 {
			out[35+at] = nil
		}
	}
	for trimmed && len(out[9]) > 0 && out[9][len(out[9])-1] == 0 {
		out[9] = out[9][:len(out[9])-1]
	}
	return out, api.OK
}

func (p plain) change() (uint64, api.Errno) {
	if len(p[10]) == 0 {
		return 0, api.OK
	}
	x := uint64(0)
	for _, c := range p[10] {
		x = x<<8 | uint64(c)
	}
	if len(p[10]) != 8 || x == 0 {
		return 0, api.ErrForm
	}
	return x, api.OK
}

// sound reports whether there is no defect.
func (p plain) sound() bool {
	_, e := p.all()
	_, f := p.change()
	if e != api.OK || f != api.OK {
		return false
	}
	owners := map[int]int{}
	for ino := range 24 {
		n, _ := inode.Get(p[11+ino])
		for _, at := range n.Blocks {
			owners[int(at)]++
		}
	}
	for at := range max(p.room(), len(p[9])*8) {
		if owners[at] > 1 || p.allocated(at) != (owners[at] == 1) {
			return false
		}
		if at < p.room() && owners[at] == 0 && len(p[35+at]) > 0 {
			return false
		}
	}
	return true
}

// patterned returns n bytes, no two neighbours of which are equal.
func patterned(n int) []byte {
	var b []byte
	for i := range n {
		b = append(b, byte(i*7+i/96+1))
	}
	return b
}

// file returns one of so many bytes.
func file(ino uint32, n int) slot.Slot {
	return slot.Slot{Ino: ino, Kind: api.File, Gen: ino + 1, Links: 1, Data: patterned(n)}
}

// directory returns one of so many entries.
func directory(ino uint32, n int) slot.Slot {
	var l []dir.Entry
	for i := range n {
		name := strings.Repeat(string(rune('a'+i)), 1+i%24)
		l = append(l, dir.Entry{Cookie: uint64(i) + 1, Handle: api.Handle{Ino: uint32(i), Gen: 7}, Name: name})
	}
	b, e := dir.Put(l)
	if e != api.OK {
		panic(e)
	}
	return slot.Slot{Ino: ino, Kind: api.Dir, Gen: 2, Links: 1, Cookie: uint64(n), Data: b}
}

// someSlot returns one that slot.Check accepts, of at most most bytes.
func someSlot(seed *uint64, ino uint32, most int) slot.Slot {
	s := file(ino, below(seed, most+1))
	switch below(seed, 6) {
	case 0:
		s = slot.Slot{Ino: ino}
	case 1:
		s = directory(ino, below(seed, 12))
	case 2:
		s.Kind = api.Link
	case 3:
		s.Data = s.Data[:len(s.Data)/96*96]
	}
	if s.Kind != api.Free {
		s.Links, s.Mode, s.Verf = 1+noise(seed)%9, noise(seed), wide(seed)
	}
	if below(seed, 3) > 0 {
		s.Gen, s.Change = noise(seed), wide(seed)
	}
	for i := range s.Data {
		if s.Kind != api.Dir {
			s.Data[i] ^= byte(s.Gen)
		}
	}
	return s
}

// someSlots returns slots of different numbers, in any order.
func someSlots(seed *uint64, count, most int) []slot.Slot {
	var inos []uint32
	for i := range uint32(24) {
		inos = append(inos, i)
	}
	var l []slot.Slot
	for i := range count {
		k := i + below(seed, 24-i)
		inos[i], inos[k] = inos[k], inos[i]
		l = append(l, someSlot(seed, inos[i], most))
	}
	return l
}
