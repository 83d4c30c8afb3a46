// Package nums is layer 2: see shared/doc/02-nums.md.
package nums

import (
	mathbits "math/bits"

	"pinnace/api"
	"pinnace/bits"
	"pinnace/reading"
)

// A group of a Var is a few bits of the number, and above them one bit: is there a further group?
const (
	part      = 4
	further   = 1 << part
	group     = part + 1
	maxGroups = 64 / part
)

// groups is how many groups Var of v has.
func groups(v uint64) int {
	return max(1, (mathbits.Len64(v)+part-1)/part)
}

// PutVar writes Var of v.
func PutVar(w *bits.Writer, v uint64) api.Errno {
	n := groups(v)
	// The room is looked at ahead of the first group, since what is written can't be taken back.
	switch {
	case w == nil:
		return api.ErrNone
	case n*group > api.MaxBits-w.Len():
		return api.ErrLong
	}
	for i := range n {
		g := v >> (part * i) % further
		if i < n-1 {
			g += further
		}
		if e := w.Put(g, group); e != api.OK {
			return e
		}
	}
	return api.OK
}

// GetVar reads the number of which Var stands next.
func GetVar(r *bits.Reader) (uint64, api.Errno) {
	return reading.Try(r, func() (uint64, api.Errno) {
		v := uint64(0)
		for i := range maxGroups {
			g, e := r.Get(group)
			if e != api.OK {
				return 0, e
			}
			v |= g % further << (part * i)
			if g >= further {
				continue
			}
			if groups(v) != i+1 {
				return 0, api.ErrForm
			}
			return v, api.OK
		}
		return 0, api.ErrForm
	})
}

// PutInt writes Var of Zig of n.
func PutInt(w *bits.Writer, n int64) api.Errno { return PutVar(w, Zig(n)) }

// GetInt reads the number of which Var of Zig stands next.
func GetInt(r *bits.Reader) (int64, api.Errno) {
	v, e := GetVar(r)
	return Zag(v), e
}

// span is how far hi is above lo; hi must not be below lo. An int64 might be too small for it.
func span(lo, hi int64) uint64 { return uint64(hi) - uint64(lo) }

// Width is how many bits In of a number from lo to hi has.
func Width(lo, hi int64) int {
	if hi < lo {
		return 0
	}
	return mathbits.Len64(span(lo, hi))
}

// PutIn writes In of n from lo to hi.
func PutIn(w *bits.Writer, n, lo, hi int64) api.Errno {
	switch {
	case w == nil:
		return api.ErrNone
	case hi < lo:
		return api.ErrArg
	case n < lo || n > hi:
		return api.ErrRange
	}
	return w.Put(span(lo, n), Width(lo, hi))
}

// GetIn reads the number from lo to hi of which In stands next.
func GetIn(r *bits.Reader, lo, hi int64) (int64, api.Errno) {
	return reading.Try(r, func() (int64, api.Errno) {
		if hi < lo {
			return 0, api.ErrArg
		}
		v, e := r.Get(Width(lo, hi))
		switch {
		case e != api.OK:
			return 0, e
		case v > span(lo, hi):
			return 0, api.ErrRange
		}
		return int64(uint64(lo) + v), api.OK
	})
}

// Zig folds the numbers below 0 in between the others, so that small ones of either sign have few bits.
func Zig(n int64) uint64 { return uint64(n)<<1 ^ uint64(n>>63) }

// Zag is the number of which v is Zig.
func Zag(v uint64) int64 { return int64(v>>1) ^ -int64(v&1) }
