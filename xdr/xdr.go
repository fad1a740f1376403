// Package xdr encodes and decodes numbers and byte strings as XDR (RFC 4506) does: in units of four bytes, the most significant byte first.
package xdr

import (
	"bytes"

	"removalist/api"
)

const (
	unit     = 4 // bytes; every encoding is a multiple of it
	hyper    = 8 // bytes; RFC 4506's name for a number of two units
	byteBits = 8
)

type number interface{ uint32 | uint64 }

// Writer appends encodings to what was written before.
type Writer struct{ out []byte }

// NewWriter returns one that has written nothing.
func NewWriter() *Writer { return &Writer{} }

// U32 appends four bytes.
func (w *Writer) U32(x uint32) { appendNumber(w, x, unit) }

// U64 appends eight bytes.
func (w *Writer) U64(x uint64) { appendNumber(w, x, hyper) }

// Bool appends a U32 of 1 or 0.
func (w *Writer) Bool(x bool) {
	if x {
		w.U32(1)
	} else {
		w.U32(0)
	}
}

// Opaque appends the length of b, b, and zero bytes up to a whole unit.
func (w *Writer) Opaque(b []byte) {
	if w == nil {
		return
	}
	w.U32(uint32(len(b)))
	w.out = append(w.out, b...)
	for range padding(len(b)) {
		w.out = append(w.out, 0)
	}
}

// Out returns everything that was written. It is a copy, so that neither later writes nor the caller's changes reach the other.
func (w *Writer) Out() []byte {
	if w == nil {
		return nil
	}
	return bytes.Clone(w.out)
}

// Reader decodes what is left of its bytes, up to the first error.
type Reader struct {
	left []byte
	err  api.Errno
}

// NewReader returns one with all of b left. It copies b, because an argument is not retained.
func NewReader(b []byte) *Reader { return &Reader{left: bytes.Clone(b)} }

// U32 reads four bytes; ErrShort.
func (r *Reader) U32() uint32 { return readNumber[uint32](r, unit) }

// U64 reads eight bytes; ErrShort.
func (r *Reader) U64() uint64 { return readNumber[uint64](r, hyper) }

// Bool reads a U32 of 1 or 0; ErrShort, ErrForm.
func (r *Reader) Bool() bool {
	x := r.U32()
	if x > 1 { // never so for a nil Reader or after an error, where U32 returns 0
		r.err = api.ErrForm
	}
	return x == 1
}

// Opaque reads a byte string of at most most bytes; ErrShort, ErrBig, ErrForm.
func (r *Reader) Opaque(most int) []byte {
	length := r.U32()
	if r.Err() != api.OK {
		return nil
	}
	// Compared in 64 bits, because a length may not fit in an int before it is known to be at most most.
	if most < 0 || uint64(length) > uint64(most) {
		r.err = api.ErrBig
		return nil
	}
	size := int(length)
	// A difference, because the sum of a length and its padding could overflow.
	if len(r.left)-size < padding(size) {
		r.err = api.ErrShort
		return nil
	}
	body := r.take(size)
	for _, c := range r.take(padding(size)) {
		if c != 0 {
			r.err = api.ErrForm
			return nil
		}
	}
	return bytes.Clone(body)
}

// Left returns how many bytes are left.
func (r *Reader) Left() int {
	if r == nil {
		return 0
	}
	return len(r.left)
}

// Err returns the first error.
func (r *Reader) Err() api.Errno {
	if r == nil {
		return api.ErrArg
	}
	return r.err
}

// End returns the first error, or ErrLeft. It does not keep ErrLeft, because asking is not reading.
func (r *Reader) End() api.Errno {
	if r.Err() == api.OK && r.Left() > 0 {
		return api.ErrLeft
	}
	return r.Err()
}

// take requires that n bytes are left. The third index keeps what is cut out from reaching into what follows it.
func (r *Reader) take(n int) []byte {
	cut := r.left[:n:n]
	r.left = r.left[n:]
	return cut
}

func appendNumber[T number](w *Writer, x T, size int) {
	if w == nil {
		return
	}
	for i := range size {
		w.out = append(w.out, byte(x>>(byteBits*(size-1-i))))
	}
}

func readNumber[T number](r *Reader, size int) T {
	if r.Err() != api.OK {
		return 0
	}
	if len(r.left) < size {
		r.err = api.ErrShort
		return 0
	}
	var x T
	for _, c := range r.take(size) {
		x = x<<byteBits | T(c)
	}
	return x
}

// padding returns how many bytes make n up to a whole unit.
func padding(n int) int { return (unit - n%unit) % unit }
