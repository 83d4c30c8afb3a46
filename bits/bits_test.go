package bits_test

import (
	"bytes"
	"math"
	"testing"

	"pinnace/api"
	"pinnace/bits"
)

// model is bits the slow and plain way: one int a bit.
type model []int

func (m *model) put(v uint64, n int) {
	for range n {
		*m = append(*m, int(v%2))
		v /= 2
	}
}

func (m model) bytes() []byte {
	p := make([]byte, (len(m)+7)/8)
	for i, bit := range m {
		p[i/8] += byte(bit << (i % 8))
	}
	return p
}

func mustPut(t *testing.T, w *bits.Writer, v uint64, n int) {
	t.Helper()
	if e := w.Put(v, n); e != api.OK {
		t.Fatalf("Put(%d, %d) = %d", v, n, e)
	}
}

func mustGet(t *testing.T, r *bits.Reader, n int, want uint64) {
	t.Helper()
	if v, e := r.Get(n); v != want || e != api.OK {
		t.Fatalf("Get(%d) = %d, %d, not %d, 0", n, v, e, want)
	}
}

// filled is a writer with n bits, all 1.
func filled(t *testing.T, n int) *bits.Writer {
	t.Helper()
	w := bits.New()
	for range n / 64 {
		mustPut(t, w, math.MaxUint64, 64)
	}
	mustPut(t, w, 1<<(n%64)-1, n%64)
	return w
}

// values are the edges of what n bits have, and patterns in between.
func values(n int) []uint64 {
	top := uint64(math.MaxUint64)
	if n < 64 {
		top = 1<<n - 1
	}
	return []uint64{0, top, top / 2, top - top/2, 0xa5c3_96f0_1b2d_4e87 & top, 1 & top}
}

func TestWriterExample(t *testing.T) {
	w := bits.New()
	if w.Len() != 0 || len(w.Bytes()) != 0 {
		t.Fatal("a new writer has bits", w.Len(), w.Bytes())
	}
	mustPut(t, w, 5, 3)
	mustPut(t, w, 1, 2)
	mustPut(t, w, 255, 8)
	if w.Len() != 13 || !bytes.Equal(w.Bytes(), []byte{0xed, 0x1f}) {
		t.Fatalf("%d bits: %x", w.Len(), w.Bytes())
	}
}

func TestReaderExample(t *testing.T) {
	r := bits.Read([]byte{0xed, 0x1f})
	if r.Left() != 16 {
		t.Fatal(r.Left())
	}
	mustGet(t, r, 3, 5)
	mustGet(t, r, 2, 1)
	mustGet(t, r, 8, 255)
	if r.Left() != 3 || r.End() != api.OK {
		t.Fatal(r.Left(), r.End())
	}
}

// Every width, at every place within a byte.
func TestPutAndGetAllWidths(t *testing.T) {
	for ahead := range 9 {
		for n := range 65 {
			for _, v := range values(n) {
				w, m := bits.New(), model{}
				for _, x := range []struct {
					v uint64
					n int
				}{{0x15a & (1<<ahead - 1), ahead}, {v, n}, {5, 3}} {
					mustPut(t, w, x.v, x.n)
					m.put(x.v, x.n)
				}
				if w.Len() != len(m) || !bytes.Equal(w.Bytes(), m.bytes()) {
					t.Fatalf("%d in %d bits behind %d: %d bits, %x, not %x", v, n, ahead, w.Len(), w.Bytes(), m.bytes())
				}
				r := bits.Read(w.Bytes())
				mustGet(t, r, ahead, 0x15a&(1<<ahead-1))
				mustGet(t, r, n, v)
				mustGet(t, r, 3, 5)
				if r.End() != api.OK || r.Left() != 8*len(m.bytes())-len(m) {
					t.Fatalf("%d in %d bits behind %d: %d left, End %d", v, n, ahead, r.Left(), r.End())
				}
			}
		}
	}
}

func TestBytesAreAsFewAsHaveTheBits(t *testing.T) {
	for n := range 65 {
		p := filled(t, n).Bytes()
		if len(p) != (n+7)/8 {
			t.Fatalf("%d bits in %d bytes", n, len(p))
		}
		if n%8 != 0 && p[n/8] != 1<<(n%8)-1 {
			t.Fatalf("%d bits: the last byte is %x", n, p[n/8])
		}
	}
}

// refuses tells whether Put answers want and changes nothing.
func refuses(t *testing.T, w *bits.Writer, v uint64, n int, want api.Errno) {
	t.Helper()
	size, was := w.Len(), w.Bytes()
	if e := w.Put(v, n); e != want {
		t.Errorf("Put(%d, %d) = %d, not %d", v, n, e, want)
	}
	if w.Len() != size || !bytes.Equal(w.Bytes(), was) {
		t.Errorf("Put(%d, %d) was refused and has changed the writer", v, n)
	}
}

func TestPutRefusesWidths(t *testing.T) {
	for _, w := range []*bits.Writer{bits.New(), filled(t, 13), filled(t, api.MaxBits)} {
		for _, n := range []int{-1, 65, -64, 128, math.MinInt, math.MaxInt} {
			refuses(t, w, 0, n, api.ErrArg)
			refuses(t, w, math.MaxUint64, n, api.ErrArg)
		}
	}
}

func TestPutRefusesGreatNumbers(t *testing.T) {
	for _, w := range []*bits.Writer{bits.New(), filled(t, 13), filled(t, api.MaxBits)} {
		for n := range 64 {
			refuses(t, w, 1<<n, n, api.ErrRange)
			refuses(t, w, math.MaxUint64, n, api.ErrRange)
		}
	}
}

func TestPutRefusesTooManyBits(t *testing.T) {
	w := filled(t, api.MaxBits-3)
	refuses(t, w, 0, 4, api.ErrLong)
	refuses(t, w, 15, 4, api.ErrLong)
	refuses(t, w, 0, 64, api.ErrLong)
	refuses(t, w, 16, 4, api.ErrRange)
	mustPut(t, w, 5, 3)
	if w.Len() != api.MaxBits || len(w.Bytes()) != api.MaxBits/8 {
		t.Fatal(w.Len(), len(w.Bytes()))
	}
	if last := w.Bytes()[api.MaxBits/8-1]; last != 0xbf {
		t.Fatalf("%x", last)
	}
	refuses(t, w, 0, 1, api.ErrLong)
	refuses(t, w, math.MaxUint64, 64, api.ErrLong)
	mustPut(t, w, 0, 0)
	if w.Len() != api.MaxBits {
		t.Fatal(w.Len())
	}
}

func TestBytesIsNewMemory(t *testing.T) {
	w := filled(t, 13)
	first, second := w.Bytes(), w.Bytes()
	for i := range first[:cap(first)] {
		first[:cap(first)][i] = 0x5a
	}
	if want := []byte{0xff, 0x1f}; !bytes.Equal(w.Bytes(), want) || !bytes.Equal(second, want) {
		t.Fatalf("%x %x", w.Bytes(), second)
	}
	for range 9 {
		mustPut(t, w, 127, 7)
	}
	if !bytes.Equal(second, []byte{0xff, 0x1f}) {
		t.Fatalf("an answer has changed: %x", second)
	}
	if p := w.Bytes(); len(p) != 10 || p[9] != 0x0f {
		t.Fatalf("%x", p)
	}
}

func TestReadKeepsNothing(t *testing.T) {
	whole := []byte{1, 2, 3, 0x77, 0x77}
	p := whole[:3]
	r := bits.Read(p)
	mustGet(t, r, 12, 0x201)
	if !bytes.Equal(whole, []byte{1, 2, 3, 0x77, 0x77}) {
		t.Fatalf("what was handed in has changed: %x", whole)
	}
	for i := range whole {
		whole[i] = 0xff
	}
	mustGet(t, r, 12, 0x30)
	if r.Left() != 0 || r.End() != api.OK {
		t.Fatal(r.Left(), r.End())
	}
}

// getRefused tells whether Get answers want and the reader stays where it is.
func getRefused(t *testing.T, r *bits.Reader, n int, want api.Errno) {
	t.Helper()
	left, end := r.Left(), r.End()
	if v, e := r.Get(n); v != 0 || e != want {
		t.Errorf("Get(%d) = %d, %d, not 0, %d", n, v, e, want)
	}
	if r.Left() != left || r.End() != end {
		t.Errorf("Get(%d) was refused, and %d are left of %d", n, r.Left(), left)
	}
}

func TestGetRefuses(t *testing.T) {
	widths := []int{-1, 65, -64, 128, math.MinInt, math.MaxInt}
	r := bits.Read([]byte{0xff, 0xff, 0xff, 0xff, 0xff, 0xff, 0xff, 0xff, 0x2d})
	for _, n := range widths {
		getRefused(t, r, n, api.ErrArg)
	}
	mustGet(t, r, 64, math.MaxUint64)
	mustGet(t, r, 2, 1)
	for n := 7; n <= 64; n++ {
		getRefused(t, r, n, api.ErrShort)
	}
	mustGet(t, r, 6, 11)
	getRefused(t, r, 1, api.ErrShort)
	for _, n := range widths {
		getRefused(t, r, n, api.ErrArg)
	}
	mustGet(t, r, 0, 0)
	if r.Left() != 0 {
		t.Fatal(r.Left())
	}
}

func TestReadOfNothing(t *testing.T) {
	for _, p := range [][]byte{nil, {}} {
		r := bits.Read(p)
		if r.Left() != 0 || r.End() != api.OK {
			t.Fatal(r.Left(), r.End())
		}
		mustGet(t, r, 0, 0)
		getRefused(t, r, 1, api.ErrShort)
	}
}

func TestEnd(t *testing.T) {
	for behind := range 17 {
		for _, x := range []struct {
			p    []byte
			want func(left int) api.Errno
		}{
			{[]byte{0xff, 0}, func(left int) api.Errno {
				if left < 8 {
					return api.OK
				}
				return api.ErrForm
			}},
			{[]byte{0, 0x80}, func(left int) api.Errno {
				if left == 0 {
					return api.OK
				}
				return api.ErrForm
			}},
			{[]byte{0, 0x08}, func(left int) api.Errno {
				if left < 5 {
					return api.OK
				}
				return api.ErrForm
			}},
			{[]byte{0, 0}, func(left int) api.Errno {
				if left < 8 {
					return api.OK
				}
				return api.ErrForm
			}},
		} {
			r := bits.Read(x.p)
			r.Get(behind)
			left := 16 - behind
			for range 2 {
				if e := r.End(); e != x.want(left) || r.Left() != left {
					t.Fatalf("%x, %d left: End = %d, then %d left", x.p, left, e, r.Left())
				}
			}
		}
	}
}

func TestNilObjects(t *testing.T) {
	var w *bits.Writer
	var r *bits.Reader
	for _, n := range []int{-1, 0, 1, 64, 65, math.MinInt, math.MaxInt} {
		if e := w.Put(math.MaxUint64, n); e != api.ErrNone {
			t.Error("Put", n, e)
		}
		if v, e := r.Get(n); v != 0 || e != api.ErrNone {
			t.Error("Get", n, v, e)
		}
	}
	if w.Len() != 0 || len(w.Bytes()) != 0 || r.Left() != 0 || r.End() != api.ErrNone {
		t.Error(w.Len(), w.Bytes(), r.Left(), r.End())
	}
}

// What one object is told must not be seen in another one.
func TestObjectsStandAlone(t *testing.T) {
	p := []byte{0x34, 0x12}
	a, b := bits.Read(p), bits.Read(p)
	mustGet(t, a, 4, 4)
	mustGet(t, b, 16, 0x1234)
	mustGet(t, a, 12, 0x123)
	v, w := bits.New(), bits.New()
	mustPut(t, v, 3, 2)
	mustPut(t, w, 0, 5)
	mustPut(t, v, 3, 2)
	if v.Len() != 4 || w.Len() != 5 || !bytes.Equal(v.Bytes(), []byte{15}) || !bytes.Equal(w.Bytes(), []byte{0}) {
		t.Fatalf("%x %x", v.Bytes(), w.Bytes())
	}
}
