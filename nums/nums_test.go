package nums_test

import (
	"bytes"
	"math"
	"testing"

	"pinnace/api"
	"pinnace/bits"
	"pinnace/nums"
)

const (
	least = math.MinInt64
	most  = math.MaxInt64
)

// text is a writer's bits as 0s and 1s, the first one first.
func text(w *bits.Writer) string {
	r := bits.Read(w.Bytes())
	out := []byte{}
	for range w.Len() {
		bit, _ := r.Get(1)
		out = append(out, '0'+byte(bit))
	}
	return string(out)
}

// varText is Var of v, worked out by dividing.
func varText(v uint64) string {
	out := []byte{}
	for {
		for k := range 4 {
			out = append(out, '0'+byte(v%16>>k&1))
		}
		v /= 16
		if v == 0 {
			return string(append(out, '0'))
		}
		out = append(out, '1')
	}
}

// reader is one for which just the bits of the text are left, so that it may stand anywhere within a byte.
func reader(t *testing.T, s string) *bits.Reader {
	t.Helper()
	w := bits.New()
	ahead := (8 - len(s)%8) % 8
	w.Put(1<<ahead-1, ahead)
	for _, c := range []byte(s) {
		if e := w.Put(uint64(c-'0'), 1); e != api.OK {
			t.Fatal(e)
		}
	}
	r := bits.Read(w.Bytes())
	r.Get(ahead)
	if r.Left() != len(s) {
		t.Fatal(r.Left(), len(s))
	}
	return r
}

// writer is one that has room for just so many bits.
func writer(t *testing.T, room int) *bits.Writer {
	t.Helper()
	w := bits.New()
	for n := api.MaxBits - room; n > 0; n -= min(n, 64) {
		if e := w.Put(1, min(n, 64)); e != api.OK {
			t.Fatal(e)
		}
	}
	return w
}

// stays tells whether a call answers want, and the writer is as it was.
func stays(t *testing.T, what string, w *bits.Writer, want api.Errno, put func() api.Errno) {
	t.Helper()
	size, was := w.Len(), w.Bytes()
	if e := put(); e != want {
		t.Errorf("%s = %d, not %d", what, e, want)
	}
	if w.Len() != size || !bytes.Equal(w.Bytes(), was) {
		t.Errorf("%s was refused and has written", what)
	}
}

// remains tells whether a call answers 0 and want, and the reader of s is as far as it was.
func remains[T int64 | uint64](t *testing.T, what, s string, want api.Errno, get func(*bits.Reader) (T, api.Errno)) {
	t.Helper()
	r := reader(t, s)
	for range 2 {
		if v, e := get(r); v != 0 || e != want {
			t.Errorf("%s of %s = %d, %d, not 0, %d", what, s, v, e, want)
		}
		if r.Left() != len(s) {
			t.Fatalf("%s of %s was refused: %d are left", what, s, r.Left())
		}
	}
	for i, c := range []byte(s) {
		if v, e := r.Get(1); e != api.OK || byte(v)+'0' != c {
			t.Fatalf("%s of %s was refused, and its bit %d is %d, %d", what, s, i, v, e)
		}
	}
}

// edges are numbers at which Var has one more group, and some in between.
func edges() []uint64 {
	l := []uint64{0, 1, 5, 0x10f, 0xa5c396f01b2d4e87, math.MaxUint64 - 1, math.MaxUint64, 1 << 63, 1<<63 - 1}
	for i := 4; i < 64; i += 4 {
		l = append(l, 1<<i-1, 1<<i, 1<<i+1)
	}
	return l
}

func signed() []int64 {
	l := []int64{least, least + 1, most, most - 1}
	for _, v := range edges() {
		l = append(l, int64(v), -int64(v))
	}
	return l
}

func TestVarExamples(t *testing.T) {
	for _, x := range []struct {
		v    uint64
		bits string
	}{{0, "00000"}, {5, "10100"}, {15, "11110"}, {16, "0000110000"}} {
		w := bits.New()
		if e := nums.PutVar(w, x.v); e != api.OK || text(w) != x.bits {
			t.Errorf("Var of %d: %s, %d", x.v, text(w), e)
		}
	}
}

func TestVarThereAndBack(t *testing.T) {
	for _, v := range edges() {
		for ahead := range 8 {
			w := bits.New()
			w.Put(0, ahead)
			if e := nums.PutVar(w, v); e != api.OK || text(w)[ahead:] != varText(v) {
				t.Fatalf("Var of %d behind %d bits: %s, %d", v, ahead, text(w), e)
			}
			w.Put(5, 3)
			r := bits.Read(w.Bytes())
			r.Get(ahead)
			if got, e := nums.GetVar(r); got != v || e != api.OK {
				t.Fatalf("GetVar of %d = %d, %d", v, got, e)
			}
			if next, _ := r.Get(3); next != 5 {
				t.Fatalf("GetVar of %d stands elsewhere", v)
			}
		}
	}
	if n := len(varText(math.MaxUint64)); n != 80 {
		t.Fatal(n)
	}
}

func TestGetVarShort(t *testing.T) {
	for _, v := range edges() {
		s := varText(v)
		for n := range len(s) {
			remains(t, "GetVar", s[:n], api.ErrShort, nums.GetVar)
		}
	}
}

// repeat is n times the group.
func repeat(group string, n int) string {
	out := ""
	for range n {
		out += group
	}
	return out
}

func TestGetVarForm(t *testing.T) {
	for n := 1; n < 16; n++ {
		for _, ahead := range []string{"00001", "11111", "10101"} {
			remains(t, "GetVar", repeat(ahead, n)+"00000", api.ErrForm, nums.GetVar)
			remains(t, "GetVar", repeat(ahead, n)+"00000"+"1100110", api.ErrForm, nums.GetVar)
		}
	}
	// Sixteen groups have all bits of a number: a further one is none, be it there or not.
	for _, group := range []string{"00001", "11111"} {
		for _, behind := range []string{"", "0", "0000", "00000", "10000", "11111", "10000000000000"} {
			remains(t, "GetVar", repeat(group, 16)+behind, api.ErrForm, nums.GetVar)
			remains(t, "GetInt", repeat(group, 16)+behind, api.ErrForm, nums.GetInt)
		}
		for n := range 80 {
			remains(t, "GetVar", repeat(group, 16)[:n], api.ErrShort, nums.GetVar)
		}
	}
	r := reader(t, repeat("00001", 15)+"10000")
	if v, e := nums.GetVar(r); v != 1<<60 || e != api.OK || r.Left() != 0 {
		t.Fatal(v, e, r.Left())
	}
}

func TestZig(t *testing.T) {
	for _, x := range []struct {
		n int64
		v uint64
	}{{0, 0}, {-1, 1}, {1, 2}, {-2, 3}, {2, 4}, {most, math.MaxUint64 - 1}, {least, math.MaxUint64}, {-1 << 62, 1<<63 - 1}, {1 << 62, 1 << 63}} {
		if nums.Zig(x.n) != x.v || nums.Zag(x.v) != x.n {
			t.Errorf("Zig(%d) = %d, Zag(%d) = %d", x.n, nums.Zig(x.n), x.v, nums.Zag(x.v))
		}
	}
	for _, n := range signed() {
		if nums.Zag(nums.Zig(n)) != n {
			t.Errorf("Zag(Zig(%d)) = %d", n, nums.Zag(nums.Zig(n)))
		}
	}
	for _, v := range edges() {
		if nums.Zig(nums.Zag(v)) != v {
			t.Errorf("Zig(Zag(%d)) = %d", v, nums.Zig(nums.Zag(v)))
		}
	}
}

func TestIntThereAndBack(t *testing.T) {
	for _, n := range signed() {
		w := bits.New()
		if e := nums.PutInt(w, n); e != api.OK || text(w) != varText(nums.Zig(n)) {
			t.Fatalf("PutInt of %d: %s, %d", n, text(w), e)
		}
		r := reader(t, text(w))
		if got, e := nums.GetInt(r); got != n || e != api.OK || r.Left() != 0 {
			t.Fatalf("GetInt of %d = %d, %d, %d left", n, got, e, r.Left())
		}
	}
}

func TestGetIntRefuses(t *testing.T) {
	for _, n := range signed() {
		s := varText(nums.Zig(n))
		remains(t, "GetInt", s[:len(s)-1], api.ErrShort, nums.GetInt)
	}
	remains(t, "GetInt", "", api.ErrShort, nums.GetInt)
	remains(t, "GetInt", "1000100000", api.ErrForm, nums.GetInt)
}

func TestWidth(t *testing.T) {
	for _, x := range []struct {
		lo, hi int64
		want   int
	}{
		{0, 1000, 10}, {5, 12, 3}, {0, 0, 0}, {0, 1, 1}, {0, 2, 2}, {0, 3, 2}, {0, 4, 3}, {-1, 0, 1}, {1, 100, 7},
		{-524288, 524287, 20}, {-7, -7, 0}, {least, least, 0}, {most, most, 0}, {least, most, 64}, {least, -1, 63}, {least, 0, 64},
		{0, most, 63}, {-1, most, 64}, {least + 1, most, 64}, {0, 1<<32 - 1, 32}, {0, 1 << 32, 33},
		{1, 0, 0}, {5, -5, 0}, {most, least, 0}, {most, most - 1, 0}, {0, least, 0},
	} {
		if n := nums.Width(x.lo, x.hi); n != x.want {
			t.Errorf("Width(%d, %d) = %d, not %d", x.lo, x.hi, n, x.want)
		}
	}
	for n := range 63 {
		if nums.Width(3, 3+1<<n-1) != n || nums.Width(3, 3+1<<n) != n+1 {
			t.Errorf("Width at 2^%d", n)
		}
	}
}

func TestInExample(t *testing.T) {
	w := bits.New()
	if e := nums.PutIn(w, 7, 5, 12); e != api.OK || text(w) != "010" {
		t.Fatal(text(w), e)
	}
	if n, e := nums.GetIn(reader(t, "010"), 5, 12); n != 7 || e != api.OK {
		t.Fatal(n, e)
	}
}

// ranges are lo and hi.
func ranges() [][2]int64 {
	return [][2]int64{
		{5, 12}, {0, 0}, {-3, -3}, {0, 1}, {-1, 1}, {0, 1000}, {-524288, 524287}, {-32768, 32767}, {1, 100},
		{least, most}, {least, least}, {most, most}, {least, 0}, {0, most}, {least, least + 4}, {most - 4, most}, {least + 1, most},
	}
}

func TestInThereAndBack(t *testing.T) {
	for _, x := range ranges() {
		lo, hi := x[0], x[1]
		middle := lo + int64((uint64(hi)-uint64(lo))/2)
		for _, n := range []int64{lo, hi, middle} {
			w := bits.New()
			w.Put(3, 2)
			if e := nums.PutIn(w, n, lo, hi); e != api.OK || w.Len() != 2+nums.Width(lo, hi) {
				t.Fatalf("PutIn(%d, %d, %d) = %d, %d bits", n, lo, hi, e, w.Len())
			}
			w.Put(5, 3)
			r := bits.Read(w.Bytes())
			r.Get(2)
			if got, e := nums.GetIn(r, lo, hi); got != n || e != api.OK {
				t.Fatalf("GetIn(%d, %d) of %d = %d, %d", lo, hi, n, got, e)
			}
			if next, _ := r.Get(3); next != 5 {
				t.Fatalf("GetIn(%d, %d) of %d stands elsewhere", lo, hi, n)
			}
		}
	}
}

func TestInIsTheNumberLessLo(t *testing.T) {
	for n := int64(-9); n <= 11; n++ {
		w := bits.New()
		nums.PutIn(w, n, -9, 11)
		if v, e := bits.Read(w.Bytes()).Get(5); v != uint64(n+9) || e != api.OK || w.Len() != 5 {
			t.Fatalf("PutIn(%d, -9, 11): %s", n, text(w))
		}
	}
}

func TestPutInRefuses(t *testing.T) {
	full := writer(t, 0)
	for _, w := range []*bits.Writer{bits.New(), writer(t, api.MaxBits-13), full} {
		for _, x := range []struct {
			n, lo, hi int64
			want      api.Errno
		}{
			{0, 1, 0, api.ErrArg}, {1, 1, 0, api.ErrArg}, {7, 1, 0, api.ErrArg}, {0, most, least, api.ErrArg}, {most, most, most - 1, api.ErrArg},
			{4, 5, 12, api.ErrRange}, {13, 5, 12, api.ErrRange}, {1, 0, 0, api.ErrRange}, {-1, 0, 0, api.ErrRange},
			{least, 5, 12, api.ErrRange}, {most, 5, 12, api.ErrRange}, {most, least, most - 1, api.ErrRange}, {least, least + 1, most, api.ErrRange},
			{1001, 0, 1000, api.ErrRange}, {-1, 0, 1000, api.ErrRange}, {1023, 0, 1000, api.ErrRange},
		} {
			stays(t, "PutIn", w, x.want, func() api.Errno { return nums.PutIn(w, x.n, x.lo, x.hi) })
		}
	}
	if e := nums.PutIn(full, 7, 7, 7); e != api.OK || full.Len() != api.MaxBits {
		t.Fatal("no bits take no room", e)
	}
}

func TestGetInRefuses(t *testing.T) {
	in := func(lo, hi int64) func(*bits.Reader) (int64, api.Errno) {
		return func(r *bits.Reader) (int64, api.Errno) { return nums.GetIn(r, lo, hi) }
	}
	for _, s := range []string{"", "1", "1111111111111", repeat("1", 64)} {
		remains(t, "GetIn(1, 0)", s, api.ErrArg, in(1, 0))
		remains(t, "GetIn(most, least)", s, api.ErrArg, in(most, least))
	}
	for _, x := range ranges() {
		if n := nums.Width(x[0], x[1]); n > 0 {
			remains(t, "GetIn", repeat("1", n-1), api.ErrShort, in(x[0], x[1]))
		}
	}
	remains(t, "GetIn(0, 2)", "11", api.ErrRange, in(0, 2))
	remains(t, "GetIn(0, 2)", "110101", api.ErrRange, in(0, 2))
	remains(t, "GetIn(0, 1000)", "1001011111", api.ErrRange, in(0, 1000))
	remains(t, "GetIn(least + 1, most)", repeat("1", 64), api.ErrRange, in(least+1, most))
	remains(t, "GetIn(-2, most)", repeat("1", 64), api.ErrRange, in(-2, most))
	if n, e := nums.GetIn(reader(t, "0001011111"), 0, 1000); n != 1000 || e != api.OK {
		t.Fatal(n, e)
	}
}

func TestGetInOfOneNumberTakesNothing(t *testing.T) {
	for _, s := range []string{"", "1", "10101"} {
		for _, n := range []int64{0, -7, least, most} {
			r := reader(t, s)
			if got, e := nums.GetIn(r, n, n); got != n || e != api.OK || r.Left() != len(s) {
				t.Fatal(n, got, e, r.Left())
			}
		}
	}
}

func TestNoRoom(t *testing.T) {
	for _, v := range []uint64{0, 5, 16, 1 << 40, math.MaxUint64} {
		n := len(varText(v))
		for _, room := range []int{0, 1, n - 1} {
			w := writer(t, room)
			stays(t, "PutVar", w, api.ErrLong, func() api.Errno { return nums.PutVar(w, v) })
			stays(t, "PutInt", w, api.ErrLong, func() api.Errno { return nums.PutInt(w, nums.Zag(v)) })
		}
		for _, put := range []func(*bits.Writer) api.Errno{
			func(w *bits.Writer) api.Errno { return nums.PutVar(w, v) },
			func(w *bits.Writer) api.Errno { return nums.PutInt(w, nums.Zag(v)) },
		} {
			w := writer(t, n)
			if e := put(w); e != api.OK || w.Len() != api.MaxBits {
				t.Fatalf("Var of %d has no room in its own bits: %d", v, e)
			}
		}
	}
	for _, x := range ranges() {
		n := nums.Width(x[0], x[1])
		if n == 0 {
			continue
		}
		w := writer(t, n-1)
		stays(t, "PutIn", w, api.ErrLong, func() api.Errno { return nums.PutIn(w, x[1], x[0], x[1]) })
		w = writer(t, n)
		if e := nums.PutIn(w, x[1], x[0], x[1]); e != api.OK || w.Len() != api.MaxBits {
			t.Fatalf("PutIn has no room in its own bits: %d", e)
		}
	}
}

func TestNilWriterAndReader(t *testing.T) {
	for _, n := range []int64{0, 7, -1, least, most} {
		if e := nums.PutVar(nil, uint64(n)); e != api.ErrNone {
			t.Error("PutVar", n, e)
		}
		if e := nums.PutInt(nil, n); e != api.ErrNone {
			t.Error("PutInt", n, e)
		}
	}
	if v, e := nums.GetVar(nil); v != 0 || e != api.ErrNone {
		t.Error("GetVar", v, e)
	}
	if v, e := nums.GetInt(nil); v != 0 || e != api.ErrNone {
		t.Error("GetInt", v, e)
	}
	for _, x := range [][3]int64{{7, 5, 12}, {4, 5, 12}, {0, 1, 0}, {3, 3, 3}, {9, 3, 3}, {0, most, least}} {
		if e := nums.PutIn(nil, x[0], x[1], x[2]); e != api.ErrNone {
			t.Error("PutIn", x, e)
		}
		if v, e := nums.GetIn(nil, x[1], x[2]); v != 0 || e != api.ErrNone {
			t.Error("GetIn", x, v, e)
		}
	}
}

// One behind the other, of all kinds: what is read is what was written, and nothing is left.
func TestManyBehindOneAnother(t *testing.T) {
	w := bits.New()
	for i, v := range edges() {
		lo, hi := -int64(i), int64(3*i)
		if nums.PutVar(w, v) != api.OK || nums.PutIn(w, int64(i), lo, hi) != api.OK || nums.PutInt(w, -int64(v)) != api.OK {
			t.Fatal(v)
		}
	}
	r := bits.Read(w.Bytes())
	for i, v := range edges() {
		a, e := nums.GetVar(r)
		b, f := nums.GetIn(r, -int64(i), int64(3*i))
		c, g := nums.GetInt(r)
		if a != v || b != int64(i) || c != -int64(v) || e != api.OK || f != api.OK || g != api.OK {
			t.Fatal(i, v, a, b, c, e, f, g)
		}
	}
	if r.End() != api.OK {
		t.Fatal(r.Left())
	}
}
