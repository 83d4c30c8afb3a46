// Package bits is layer 1: see shared/doc/01-bits.md.
package bits

import (
	"bytes"

	"pinnace/api"
)

// widest is how many bits one number may have.
const widest = 64

// Writer writes bits.
type Writer struct {
	p []byte
	n int
}

// Reader reads them. Its bytes are its own and are never written, so that its place is all that changes.
type Reader struct {
	p  []byte
	at int
}

// New is a writer without bits.
func New() *Writer { return &Writer{} }

// Put writes v in n bits behind all others.
func (w *Writer) Put(v uint64, n int) api.Errno {
	switch {
	case w == nil:
		return api.ErrNone
	case n < 0 || n > widest:
		return api.ErrArg
	case v>>n != 0:
		return api.ErrRange
	case n > api.MaxBits-w.n:
		return api.ErrLong
	}
	for i := range n {
		w.add(byte(v >> i & 1))
	}
	return api.OK
}

func (w *Writer) add(bit byte) {
	if w.n%8 == 0 {
		w.p = append(w.p, 0)
	}
	w.p[w.n/8] |= bit << (w.n % 8)
	w.n++
}

// Len is how many bits there are.
func (w *Writer) Len() int {
	if w == nil {
		return 0
	}
	return w.n
}

// Bytes is a copy of the bits, in as few bytes as have them.
func (w *Writer) Bytes() []byte {
	if w == nil {
		return nil
	}
	return bytes.Clone(w.p)
}

// Read is a reader at the first bit of a copy of p: the caller may write over p.
func Read(p []byte) *Reader { return &Reader{p: bytes.Clone(p)} }

// Get reads the number of the next n bits.
func (r *Reader) Get(n int) (uint64, api.Errno) {
	switch {
	case r == nil:
		return 0, api.ErrNone
	case n < 0 || n > widest:
		return 0, api.ErrArg
	case n > r.Left():
		return 0, api.ErrShort
	}
	v := r.next(n)
	r.at += n
	return v, api.OK
}

// next is the number of the next n bits, which must be there; the reader stays where it is.
func (r *Reader) next(n int) uint64 {
	v := uint64(0)
	for i := range n {
		at := r.at + i
		bit := r.p[at/8] >> (at % 8) & 1
		v |= uint64(bit) << i
	}
	return v
}

// Left is how many bits are still to be read.
func (r *Reader) Left() int {
	if r == nil {
		return 0
	}
	return 8*len(r.p) - r.at
}

// End tells whether nothing is left but what fills the last byte.
func (r *Reader) End() api.Errno {
	if r == nil {
		return api.ErrNone
	}
	left := r.Left()
	if left >= 8 || r.next(left) != 0 {
		return api.ErrForm
	}
	return api.OK
}
