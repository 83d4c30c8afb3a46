// Package reading lets the layers above bits read things of several parts whole or not at all.
package reading

import (
	"pinnace/api"
	"pinnace/bits"
)

// Try answers what read reads of r. Beside an error the answer is the zero value, and r is as far as it was; of a nil reader read isn't asked.
func Try[T any](r *bits.Reader, read func() (T, api.Errno)) (T, api.Errno) {
	var none T
	if r == nil {
		return none, api.ErrNone
	}
	// A reader has no call that goes back: it is given back what it held itself, which is its bytes and its place.
	start := *r
	v, e := read()
	if e != api.OK {
		*r = start
		return none, e
	}
	return v, api.OK
}
