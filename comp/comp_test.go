package comp_test

import (
	"bytes"
	"math"
	"strings"
	"testing"

	"pinnace/api"
	"pinnace/bits"
	"pinnace/comp"
	"pinnace/schema"
)

func of(kind byte, f ...int32) api.Comp {
	c := api.Comp{Kind: kind}
	copy(c.F[:], f)
	return c
}

// text is the bits of a writer, the first one first.
func text(w *bits.Writer) string {
	p := w.Bytes()
	s := strings.Builder{}
	for i := range w.Len() {
		s.WriteByte('0' + p[i/8]>>(i%8)&1)
	}
	return s.String()
}

// reader is a reader of just these bits, and of as many more as fill the last byte; spaces are passed over.
func reader(s string) *bits.Reader {
	w := bits.New()
	for _, x := range strings.ReplaceAll(s, " ", "") {
		w.Put(uint64(x-'0'), 1)
	}
	return bits.Read(w.Bytes())
}

// exact is a reader which has just these bits left, behind as many others as there must be.
func exact(s string) *bits.Reader {
	s = strings.ReplaceAll(s, " ", "")
	ahead := (8 - len(s)%8) % 8
	r := reader(strings.Repeat("1", ahead) + s)
	r.Get(ahead)
	return r
}

// rest reads all that is left.
func rest(r *bits.Reader) string {
	s := strings.Builder{}
	for range r.Left() {
		v, _ := r.Get(1)
		s.WriteByte('0' + byte(v))
	}
	return s.String()
}

// low is n in so many bits, the lowest first.
func low(n int64, width int) string {
	s := strings.Builder{}
	for i := range width {
		s.WriteByte('0' + byte(n>>i&1))
	}
	return s.String()
}

// field is a field's range and its width, by hand.
type field struct {
	lo, hi int32
	width  int
}

func fields(kind byte) []field {
	return [][]field{
		{{-524288, 524287, 20}, {-524288, 524287, 20}},
		{{-32768, 32767, 16}, {-32768, 32767, 16}},
		{{0, 4095, 12}},
		{{0, 15, 4}, {0, 1000, 10}, {1, 100, 7}},
		{{0, 7, 3}, {0, 255, 8}, {0, 31, 5}},
		{{1, 255, 8}, {0, 254, 8}, {0, 15, 4}},
	}[kind]
}

// wholeBits and stepBits are the chapter's words, as text.
func wholeBits(c api.Comp) string {
	s := ""
	for i, f := range fields(c.Kind) {
		s += low(int64(c.F[i])-int64(f.lo), f.width)
	}
	return s
}

func stepBits(was, c api.Comp) string {
	s := ""
	for i, f := range fields(c.Kind) {
		d := int64(c.F[i]) - int64(was.F[i])
		switch {
		case d == 0:
			s += "0"
		case d > 0 && d <= 8:
			s += "11" + low(2*d-1, 4)
		case d < 0 && d >= -8:
			s += "11" + low(-2*d-2, 4)
		default:
			s += "10" + low(int64(c.F[i])-int64(f.lo), f.width)
		}
	}
	return s
}

// samples are components of the kind: at both ends of each range, and in between, in all ways of putting them together.
func samples(kind byte) []api.Comp {
	l := []api.Comp{{Kind: kind}}
	for i, f := range fields(kind) {
		next := []api.Comp(nil)
		mid := (f.lo + f.hi) / 2
		for _, n := range []int32{f.lo, f.lo + 3, mid, min(mid+8, f.hi), max(mid-9, f.lo), f.hi - 2, f.hi} {
			for _, c := range l {
				c.F[i] = n
				next = append(next, c)
			}
		}
		l = next
	}
	return l
}

func TestWhole(t *testing.T) {
	for kind := range byte(api.Kinds) {
		for _, c := range samples(kind) {
			w := bits.New()
			w.Put(1, 1)
			if e := comp.Put(w, c); e != api.OK || text(w) != "1"+wholeBits(c) {
				t.Fatal(c, e, text(w))
			}
			if n := comp.Size(c); n != w.Len()-1 || n != schema.Bits(kind) {
				t.Fatal(c, n)
			}
			r := reader("1" + wholeBits(c) + "101")
			r.Get(1)
			left := r.Left()
			if x, e := comp.Get(r, kind); x != c || e != api.OK || left-r.Left() != schema.Bits(kind) || !strings.HasPrefix(rest(r), "101") {
				t.Fatal(c, x, e)
			}
		}
	}
}

func TestSteps(t *testing.T) {
	for kind := range byte(api.Kinds) {
		for _, was := range samples(kind) {
			for _, c := range samples(kind) {
				step(t, was, c)
			}
		}
	}
}

// step holds c's bits behind was against the chapter's words, there and back.
func step(t *testing.T, was, c api.Comp) {
	t.Helper()
	want := stepBits(was, c)
	w := bits.New()
	w.Put(2, 2)
	if e := comp.PutStep(w, was, c); e != api.OK || text(w) != "01"+want {
		t.Fatal(was, c, e, text(w), want)
	}
	if n := comp.SizeStep(was, c); n != len(want) {
		t.Fatal(was, c, n)
	}
	r := reader(want + "011")
	if x, e := comp.GetStep(r, was); x != c || e != api.OK || !strings.HasPrefix(rest(r), "011") {
		t.Fatal(was, c, x, e)
	}
}

// Every field a little more and less, at both ends of its range and between, till beyond what is near.
func TestStepsNearAndFar(t *testing.T) {
	for kind := range byte(api.Kinds) {
		for i, f := range fields(kind) {
			for _, from := range []int32{f.lo, f.lo + 1, (f.lo + f.hi) / 2, f.hi - 1, f.hi} {
				was := samples(kind)[0]
				was.F[i] = from
				for d := int32(-20); d <= 20; d++ {
					c := was
					c.F[i] += d
					if c.F[i] >= f.lo && c.F[i] <= f.hi {
						step(t, was, c)
					}
				}
			}
		}
	}
}

func TestExamples(t *testing.T) {
	five := of(api.Life, 5)
	if comp.Size(five) != 12 {
		t.Error("whole")
	}
	for _, x := range []struct {
		was  int32
		bits string
	}{
		{6, "110000"},
		{5, "0"},
		{500, "10101000000000"},
	} {
		w := bits.New()
		if e := comp.PutStep(w, of(api.Life, x.was), five); e != api.OK || text(w) != x.bits {
			t.Error(x.was, e, text(w))
		}
		if n := comp.SizeStep(of(api.Life, x.was), five); n != len(x.bits) {
			t.Error(x.was, n)
		}
	}
}

// Zig of 8 more is 16, of 8 less 15, of 9 less 17, of 9 more 18.
func TestEdgeOfNear(t *testing.T) {
	was := of(api.Life, 100)
	for _, x := range []struct {
		n    int32
		bits string
	}{
		{108, "11" + "1111"},
		{92, "11" + "0111"},
		{91, "10" + "110110100000"},
		{109, "10" + "101101100000"},
		{101, "11" + "1000"},
		{99, "11" + "0000"},
	} {
		c := of(api.Life, x.n)
		w := bits.New()
		if e := comp.PutStep(w, was, c); e != api.OK || text(w) != x.bits || comp.SizeStep(was, c) != len(x.bits) {
			t.Error(x.n, e, text(w))
		}
		r := exact(x.bits)
		if y, e := comp.GetStep(r, was); y != c || e != api.OK || r.Left() != 0 {
			t.Error(x.n, y, e)
		}
	}
}

// refused are components that are none, and Check's error.
func refused() map[api.Comp]api.Errno {
	return map[api.Comp]api.Errno{
		of(6):                      api.ErrArg,
		of(255, 1, 1, 1):           api.ErrArg,
		of(api.Life, 4096, 1):      api.ErrForm,
		of(api.Pos, 0, 0, -1):      api.ErrForm,
		of(api.Life, 4096):         api.ErrRange,
		of(api.Life, -1):           api.ErrRange,
		of(api.Body, 3, 1001, 5):   api.ErrRange,
		of(api.Body, 3, 0, 0):      api.ErrRange,
		of(api.Body, 3, 0, 101):    api.ErrRange,
		of(api.Spawn):              api.ErrRange,
		of(api.Tag, 0, 256):        api.ErrRange,
		of(api.Vel, math.MinInt32): api.ErrRange,
	}
}

// unwritten tells that a call answers the error, and that the writer is as it was.
func unwritten(t *testing.T, want api.Errno, put func(w *bits.Writer) api.Errno) {
	t.Helper()
	w := bits.New()
	w.Put(5, 3)
	if e := put(w); e != want || text(w) != "101" {
		t.Error(e, "in place of", want, "and", text(w))
	}
	w.Put(1, 1)
	if text(w) != "1011" {
		t.Error("behind it", text(w))
	}
}

func TestPutRefused(t *testing.T) {
	for c, want := range refused() {
		unwritten(t, want, func(w *bits.Writer) api.Errno { return comp.Put(w, c) })
		if n := comp.Size(c); n != 0 {
			t.Error(c, n)
		}
	}
}

// was goes ahead of c, and both ahead of their kinds.
func TestPutStepRefused(t *testing.T) {
	fine := []api.Comp{of(api.Pos), of(api.Life, 7), of(api.Body, 0, 0, 1), of(api.Spawn, 1)}
	for bad, want := range refused() {
		for _, good := range fine {
			refuseStep(t, bad, good, want)
			refuseStep(t, good, bad, want)
		}
		for other := range refused() {
			refuseStep(t, bad, other, want)
		}
	}
	for i, a := range fine {
		for j, b := range fine {
			if i != j {
				refuseStep(t, a, b, api.ErrForm)
			}
		}
	}
}

func refuseStep(t *testing.T, was, c api.Comp, want api.Errno) {
	t.Helper()
	unwritten(t, want, func(w *bits.Writer) api.Errno { return comp.PutStep(w, was, c) })
	if n := comp.SizeStep(was, c); n != 0 {
		t.Error(was, c, n)
	}
}

// unread tells that a call answers the error and nothing beside it, and that the reader is as far as it was.
func unread(t *testing.T, s string, want api.Errno, get func(r *bits.Reader) (api.Comp, api.Errno)) {
	t.Helper()
	s = strings.ReplaceAll(s, " ", "")
	r := exact(s)
	c, e := get(r)
	if c != (api.Comp{}) || e != want || r.Left() != len(s) {
		t.Error(s, c, e, "in place of", want, "with", r.Left(), "left")
	}
	if rest(r) != s {
		t.Error(s, "isn't what is left")
	}
}

func TestGetOfNoKind(t *testing.T) {
	for k := api.Kinds; k <= math.MaxUint8; k++ {
		for _, s := range []string{"", "1", strings.Repeat("0", 64)} {
			unread(t, s, api.ErrArg, func(r *bits.Reader) (api.Comp, api.Errno) { return comp.Get(r, byte(k)) })
		}
	}
}

// Bytes that end within each field, at every bit.
func TestGetShort(t *testing.T) {
	for kind := range byte(api.Kinds) {
		c := samples(kind)[0]
		s := wholeBits(c)
		for n := range len(s) {
			unread(t, s[:n], api.ErrShort, func(r *bits.Reader) (api.Comp, api.Errno) { return comp.Get(r, kind) })
		}
		if x, e := comp.Get(exact(s), kind); x != c || e != api.OK {
			t.Error(kind, x, e)
		}
	}
}

// The bits of a field have room for more than some ranges have; the first field that can't be tells.
func TestGetBeyond(t *testing.T) {
	for _, x := range []struct {
		kind byte
		bits string
		e    api.Errno
	}{
		{api.Body, low(0, 4) + low(1001, 10) + low(0, 7), api.ErrRange},
		{api.Body, low(0, 4) + low(1023, 10) + low(0, 7), api.ErrRange},
		{api.Body, low(15, 4) + low(1000, 10) + low(100, 7), api.ErrRange},
		{api.Body, low(15, 4) + low(1000, 10) + low(127, 7), api.ErrRange},
		{api.Body, low(0, 4) + low(1001, 10) + low(0, 6), api.ErrRange},
		{api.Body, low(0, 4) + low(1001, 10), api.ErrRange},
		{api.Body, low(0, 4) + low(1023, 9), api.ErrShort},
		{api.Body, low(0, 4) + low(1000, 10) + low(127, 6), api.ErrShort},
		{api.Spawn, low(255, 8) + low(0, 12), api.ErrRange},
		{api.Spawn, low(255, 8), api.ErrRange},
		{api.Spawn, low(255, 7), api.ErrShort},
		{api.Spawn, low(254, 8) + low(255, 8) + low(0, 4), api.ErrRange},
		{api.Spawn, low(254, 8) + low(255, 8), api.ErrRange},
		{api.Spawn, low(254, 8) + low(254, 8) + low(0, 3), api.ErrShort},
	} {
		unread(t, x.bits, x.e, func(r *bits.Reader) (api.Comp, api.Errno) { return comp.Get(r, x.kind) })
	}
	c, e := comp.Get(exact(low(15, 4)+low(1000, 10)+low(99, 7)), api.Body)
	if c != of(api.Body, 15, 1000, 100) || e != api.OK {
		t.Error(c, e)
	}
}

func TestGetStepRefused(t *testing.T) {
	for was, want := range refused() {
		for _, s := range []string{"", "0", "000", "1", strings.Repeat("1", 64)} {
			unread(t, s, want, func(r *bits.Reader) (api.Comp, api.Errno) { return comp.GetStep(r, was) })
		}
	}
}

// Bytes that end within each part of each field, at every bit.
func TestGetStepShort(t *testing.T) {
	for kind := range byte(api.Kinds) {
		l := samples(kind)
		for _, was := range []api.Comp{l[0], l[len(l)/2], l[len(l)-1]} {
			for _, c := range l {
				s := stepBits(was, c)
				for n := range len(s) {
					unread(t, s[:n], api.ErrShort, func(r *bits.Reader) (api.Comp, api.Errno) { return comp.GetStep(r, was) })
				}
			}
		}
	}
}

func TestGetStepOfFieldsThatCannotBe(t *testing.T) {
	life, body, spawn := of(api.Life, 5), of(api.Body, 3, 1000, 5), of(api.Spawn, 250, 0, 15)
	for _, x := range []struct {
		was  api.Comp
		bits string
		e    api.Errno
	}{
		// It is said to have changed, and hasn't.
		{life, "10" + low(5, 12), api.ErrForm},
		{body, "0 10" + low(1000, 10) + "0", api.ErrForm},
		{body, "0 0 10" + low(4, 7), api.ErrForm},
		// It isn't said to be near, and is.
		{life, "10" + low(6, 12), api.ErrForm},
		{life, "10" + low(13, 12), api.ErrForm},
		{life, "10" + low(0, 12), api.ErrForm},
		{of(api.Life, 500), "10" + low(492, 12), api.ErrForm},
		{of(api.Life, 500), "10" + low(508, 12), api.ErrForm},
		{of(api.Pos, -api.Far, 0), "10" + low(8, 20) + "0", api.ErrForm},
		{of(api.Pos, -api.Far, api.Far-1), "0 10" + low(2*api.Far-9, 20), api.ErrForm},
		// It would be outside.
		{life, "11" + low(10, 4), api.ErrRange},
		{life, "11" + low(14, 4), api.ErrRange},
		{of(api.Life, 4090), "11" + low(11, 4), api.ErrRange},
		{of(api.Life, 4095), "11" + low(1, 4), api.ErrRange},
		{of(api.Pos, -api.Far, 0), "11" + low(0, 4) + "0", api.ErrRange},
		{of(api.Pos, 0, api.Far-1), "0 11" + low(1, 4), api.ErrRange},
		{of(api.Body, 3, 0, 1), "0 0 11" + low(0, 4), api.ErrRange},
		{of(api.Body, 3, 0, 100), "0 0 11" + low(1, 4), api.ErrRange},
		{of(api.Body, 3, 0, 1), "0 10" + low(1001, 10) + "0", api.ErrRange},
		{of(api.Body, 3, 0, 1), "0 0 10" + low(127, 7), api.ErrRange},
		{spawn, "0 10" + low(255, 8) + "0", api.ErrRange},
		// It would be outside, so that it isn't asked whether it is near.
		{body, "0 10" + low(1001, 10) + "0", api.ErrRange},
		{spawn, "10" + low(255, 8) + "00", api.ErrRange},
		// The first field tells, whatever the next ones are.
		{body, "0 10" + low(1001, 10), api.ErrRange},
		{body, "0 10" + low(1001, 10) + "10" + low(4, 7), api.ErrRange},
		{body, "0 10" + low(1000, 10), api.ErrForm},
		{body, "0 10" + low(999, 10) + "10" + low(127, 7), api.ErrForm},
		{body, "0 10" + low(1001, 9), api.ErrShort},
		{body, "0 11" + low(1, 4), api.ErrRange},
		{body, "0 11" + low(1, 3), api.ErrShort},
		{body, "10" + low(3, 4) + "1", api.ErrForm},
		{body, "11" + low(6, 4) + "10" + low(1000, 10), api.ErrRange},
	} {
		unread(t, x.bits, x.e, func(r *bits.Reader) (api.Comp, api.Errno) { return comp.GetStep(r, x.was) })
	}
}

// All that two bytes may say behind a tag: what is read would be written so, and in no other way.
func TestGetStepHasOneForm(t *testing.T) {
	for n := range int32(8) {
		was := of(api.Tag, n, 7, 31)
		for v := range int64(1 << 16) {
			r := bits.Read([]byte{byte(v), byte(v >> 8)})
			c, e := comp.GetStep(r, was)
			if e != api.OK {
				if c != (api.Comp{}) || r.Left() != 16 {
					t.Fatal(was, v, c, e, r.Left())
				}
				continue
			}
			if s := stepBits(was, c); s != low(v, 16-r.Left()) {
				t.Fatal(was, v, c, s)
			}
		}
	}
}

// leaves is a writer that has room for n further bits.
func leaves(t *testing.T, n int) *bits.Writer {
	w := bits.New()
	for w.Len()+64 <= api.MaxBits-n {
		w.Put(math.MaxUint64, 64)
	}
	w.Put(0, api.MaxBits-n-w.Len())
	if w.Len() != api.MaxBits-n {
		t.Fatal(w.Len())
	}
	return w
}

func TestRoom(t *testing.T) {
	for _, x := range [][2]api.Comp{
		{of(api.Life, 6), of(api.Life, 5)},
		{of(api.Life, 5), of(api.Life, 5)},
		{of(api.Life, 500), of(api.Life, 5)},
		{of(api.Body, 1, 0, 1), of(api.Body, 3, 1000, 1)},
		{of(api.Pos, -api.Far, api.Far-1), of(api.Pos, api.Far-1, -api.Far)},
		{of(api.Spawn, 1, 0, 0), of(api.Spawn, 255, 254, 15)},
		{of(api.Tag, 1, 2, 3), of(api.Tag, 1, 2, 3)},
	} {
		was, c := x[0], x[1]
		inRoom(t, comp.Size(c), wholeBits(c), func(w *bits.Writer) api.Errno { return comp.Put(w, c) })
		inRoom(t, comp.SizeStep(was, c), stepBits(was, c), func(w *bits.Writer) api.Errno { return comp.PutStep(w, was, c) })
	}
}

// inRoom tells that there is room in a writer with n bits, and none in one with fewer.
func inRoom(t *testing.T, n int, want string, put func(w *bits.Writer) api.Errno) {
	t.Helper()
	for _, less := range []int{n - 1, n / 2, 0} {
		w := leaves(t, less)
		was := w.Bytes()
		if e := put(w); e != api.ErrLong || w.Len() != api.MaxBits-less || !bytes.Equal(w.Bytes(), was) {
			t.Error("room for", less, "of", n, e)
		}
		if e := w.Put(0, less); e != api.OK || w.Len() != api.MaxBits {
			t.Error("behind it", e)
		}
	}
	w := leaves(t, n)
	if e := put(w); e != api.OK || w.Len() != api.MaxBits || !strings.HasSuffix(text(w), want) {
		t.Error("room for all", n, e)
	}
}

// No room goes behind the others.
func TestNoRoomGoesLast(t *testing.T) {
	w := leaves(t, 0)
	for bad, want := range refused() {
		if e := comp.Put(w, bad); e != want {
			t.Error(bad, e)
		}
		if e := comp.PutStep(w, bad, of(api.Life)); e != want {
			t.Error(bad, e)
		}
		if e := comp.PutStep(w, of(api.Life), bad); e != want {
			t.Error(bad, e)
		}
	}
	if e := comp.PutStep(w, of(api.Life), of(api.Pos)); e != api.ErrForm {
		t.Error(e)
	}
	if w.Len() != api.MaxBits {
		t.Error(w.Len())
	}
}

func TestNilWriterAndReader(t *testing.T) {
	l := []api.Comp{of(api.Life, 5), of(api.Pos)}
	for c := range refused() {
		l = append(l, c)
	}
	for _, c := range l {
		if e := comp.Put(nil, c); e != api.ErrNone {
			t.Error("Put", c, e)
		}
		if x, e := comp.Get(nil, c.Kind); x != (api.Comp{}) || e != api.ErrNone {
			t.Error("Get", c.Kind, x, e)
		}
		if x, e := comp.GetStep(nil, c); x != (api.Comp{}) || e != api.ErrNone {
			t.Error("GetStep", c, x, e)
		}
		for _, d := range l {
			if e := comp.PutStep(nil, c, d); e != api.ErrNone {
				t.Error("PutStep", c, d, e)
			}
		}
	}
}

// It is asked of all three fields, of components of any kinds and of what are none.
func TestChanged(t *testing.T) {
	for mask := range byte(8) {
		for _, kinds := range [][2]byte{{api.Body, api.Body}, {api.Life, api.Life}, {api.Pos, api.Tag}, {6, 255}} {
			was, c := of(kinds[0], 1, math.MinInt32, 0), of(kinds[1], 1, math.MinInt32, 0)
			for i := range api.Fields {
				c.F[i] ^= int32(mask>>i&1) << (10 * i)
			}
			if x := comp.Changed(was, c); x != mask {
				t.Error(kinds, mask, x)
			}
			if x := comp.Changed(c, was); x != mask {
				t.Error("the other way", kinds, mask, x)
			}
		}
	}
	if x := comp.Changed(of(api.Pos, math.MinInt32, 0, math.MaxInt32), of(api.Pos, math.MaxInt32, 0, math.MinInt32)); x != 5 {
		t.Error(x)
	}
}

// What was written stays what it is when the writer goes on, and a reader holds on to no bytes that are the caller's.
func TestNothingIsShared(t *testing.T) {
	w := bits.New()
	a, b := of(api.Body, 3, 700, 5), of(api.Body, 3, 701, 50)
	comp.Put(w, a)
	p := w.Bytes()
	was := bytes.Clone(p)
	comp.PutStep(w, a, b)
	if !bytes.Equal(p, was) {
		t.Error("an earlier answer has changed")
	}
	p = w.Bytes()
	room := append(p, 0xaa, 0xbb)
	kept := bytes.Clone(room)
	r := bits.Read(room[:len(p)])
	x, e := comp.Get(r, api.Body)
	if !bytes.Equal(room, kept) {
		t.Error("it was written over")
	}
	clear(room)
	y, f := comp.GetStep(r, a)
	if x != a || y != b || e != api.OK || f != api.OK || r.End() != api.OK {
		t.Error(x, y, e, f)
	}
}

// One behind the other, of all kinds, whole and by steps: what is read is what was written, and nothing is left.
func TestManyBehindOneAnother(t *testing.T) {
	w := bits.New()
	n := 0
	for kind := range byte(api.Kinds) {
		was := samples(kind)[0]
		for _, c := range samples(kind) {
			if comp.Put(w, c) != api.OK || comp.PutStep(w, was, c) != api.OK {
				t.Fatal(c)
			}
			n += comp.Size(c) + comp.SizeStep(was, c)
			was = c
		}
	}
	if w.Len() != n {
		t.Fatal(w.Len(), n)
	}
	r := bits.Read(w.Bytes())
	for kind := range byte(api.Kinds) {
		was := samples(kind)[0]
		for _, c := range samples(kind) {
			x, e := comp.Get(r, kind)
			y, f := comp.GetStep(r, was)
			if x != c || y != c || e != api.OK || f != api.OK {
				t.Fatal(c, x, y, e, f)
			}
			was = c
		}
	}
	if r.End() != api.OK {
		t.Fatal(r.Left())
	}
}
