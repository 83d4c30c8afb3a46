package reading_test

import (
	"testing"

	"pinnace/api"
	"pinnace/bits"
	"pinnace/reading"
)

func TestTryOfNilReader(t *testing.T) {
	v, e := reading.Try(nil, func() (string, api.Errno) {
		t.Error("it was asked")
		return "some", api.OK
	})
	if v != "" || e != api.ErrNone {
		t.Fatal(v, e)
	}
}

func TestTryThatReads(t *testing.T) {
	r := bits.Read([]byte{0xa7})
	v, e := reading.Try(r, func() ([2]uint64, api.Errno) {
		a, _ := r.Get(3)
		b, e := r.Get(2)
		return [2]uint64{a, b}, e
	})
	if v != [2]uint64{7, 0} || e != api.OK || r.Left() != 3 {
		t.Fatal(v, e, r.Left())
	}
}

func TestTryThatFails(t *testing.T) {
	r := bits.Read([]byte{0xa7})
	r.Get(1)
	v, e := reading.Try(r, func() (uint64, api.Errno) {
		v, _ := r.Get(5)
		return v, api.ErrForm
	})
	if v != 0 || e != api.ErrForm || r.Left() != 7 {
		t.Fatal(v, e, r.Left())
	}
	if v, e := r.Get(7); v != 0x53 || e != api.OK {
		t.Fatal(v, e)
	}
}

// An inner failure that the outer reading passes over sets back the inner one alone.
func TestTryWithinTry(t *testing.T) {
	r := bits.Read([]byte{0xa7})
	v, e := reading.Try(r, func() (uint64, api.Errno) {
		r.Get(2)
		reading.Try(r, func() (uint64, api.Errno) {
			r.Get(6)
			return r.Get(1)
		})
		return r.Get(6)
	})
	if v != 0x29 || e != api.OK || r.Left() != 0 {
		t.Fatal(v, e, r.Left())
	}
}
