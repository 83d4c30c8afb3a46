package fixed_test

import (
	"math"
	"math/big"
	"testing"

	"pinnace/api"
	"pinnace/fixed"
)

const (
	least = math.MinInt32
	most  = math.MaxInt32
)

// edges are the ends of an int32, numbers around One and around the squares that fit, and some between.
func edges() []int32 {
	out := []int32{least, least + 1, least + 2, most - 2, most - 1, most, 0x12345678, -0x12345678, 46340, 46341, -46341, 524288, -524288}
	for n := int32(-3); n <= 3; n++ {
		out = append(out, n, 256+n, -256+n, 512+n, -512+n, 1<<16+n, -1<<16+n, 1<<23+n, -1<<23+n, 1<<30+n, -1<<30+n)
	}
	return out
}

// kept is n as an int32, by numbers that have no bound.
func kept(n *big.Int) int32 {
	switch {
	case n.Cmp(big.NewInt(least)) < 0:
		return least
	case n.Cmp(big.NewInt(most)) > 0:
		return most
	}
	return int32(n.Int64())
}

func of(n int32) *big.Int { return big.NewInt(int64(n)) }

func TestExamples(t *testing.T) {
	q, e := fixed.Div(256, 768)
	for _, x := range []struct {
		what      string
		got, want int64
	}{
		{"Mul(384, -384)", int64(fixed.Mul(384, -384)), -576},
		{"Div(256, 768)", int64(q), 85},
		{"Div's error", int64(e), int64(api.OK)},
		{"Floor(-1)", int64(fixed.Floor(-1)), -1},
		{"Root(99)", int64(fixed.Root(99)), 9},
		{"Len(3, 4)", int64(fixed.Len(3, 4)), 5},
		{"Add(2^31 - 1, 1)", int64(fixed.Add(most, 1)), most},
	} {
		if x.got != x.want {
			t.Errorf("%s = %d, not %d", x.what, x.got, x.want)
		}
	}
}

func TestOfTwo(t *testing.T) {
	one := big.NewInt(api.One)
	for _, a := range edges() {
		for _, b := range edges() {
			n := new(big.Int)
			if got, want := fixed.Add(a, b), kept(n.Add(of(a), of(b))); got != want {
				t.Errorf("Add(%d, %d) = %d, not %d", a, b, got, want)
			}
			if got, want := fixed.Sub(a, b), kept(n.Sub(of(a), of(b))); got != want {
				t.Errorf("Sub(%d, %d) = %d, not %d", a, b, got, want)
			}
			if got, want := fixed.Mul(a, b), kept(n.Quo(n.Mul(of(a), of(b)), one)); got != want {
				t.Errorf("Mul(%d, %d) = %d, not %d", a, b, got, want)
			}
			if b == 0 {
				continue
			}
			want := kept(n.Quo(n.Mul(of(a), one), of(b)))
			if got, e := fixed.Div(a, b); got != want || e != api.OK {
				t.Errorf("Div(%d, %d) = %d, %d, not %d", a, b, got, e, want)
			}
		}
	}
}

func TestKeptInAtTheEnds(t *testing.T) {
	for _, x := range []struct {
		what      string
		got, want int32
	}{
		{"least + -1", fixed.Add(least, -1), least},
		{"least + least", fixed.Add(least, least), least},
		{"most + most", fixed.Add(most, most), most},
		{"most + least", fixed.Add(most, least), -1},
		{"least - 1", fixed.Sub(least, 1), least},
		{"0 - least", fixed.Sub(0, least), most},
		{"-1 - least", fixed.Sub(-1, least), most},
		{"most - least", fixed.Sub(most, least), most},
		{"least * least", fixed.Mul(least, least), most},
		{"least * most", fixed.Mul(least, most), least},
		{"least * -1.0", fixed.Mul(least, -256), most},
		{"least * 1.0", fixed.Mul(least, 256), least},
		{"least * 1/256", fixed.Mul(least, 1), -8388608},
	} {
		if x.got != x.want {
			t.Errorf("%s = %d, not %d", x.what, x.got, x.want)
		}
	}
}

func TestRoundedTowardZero(t *testing.T) {
	for _, x := range []struct{ a, b, want int32 }{{1, 1, 0}, {1, -1, 0}, {-1, -1, 0}, {1, 255, 0}, {-1, 255, 0}, {-1, 256, -1}, {-1, 511, -1}, {-1, 512, -2}, {3, 171, 2}, {-3, 171, -2}} {
		if got := fixed.Mul(x.a, x.b); got != x.want {
			t.Errorf("Mul(%d, %d) = %d, not %d", x.a, x.b, got, x.want)
		}
	}
	for _, x := range []struct{ a, b, want int32 }{{256, -768, -85}, {-256, 768, -85}, {-256, -768, 85}, {1, 257, 0}, {-1, 257, 0}, {1, -257, 0}, {1, most, 0}, {-1, least, 0}, {least, -1, most}, {least, 1, least}, {most, 1, most}, {most, -1, least}, {most, 256, most}, {least, 256, least}, {least, -256, most}, {0, 5, 0}, {0, least, 0}} {
		if got, e := fixed.Div(x.a, x.b); got != x.want || e != api.OK {
			t.Errorf("Div(%d, %d) = %d, %d, not %d", x.a, x.b, got, e, x.want)
		}
	}
}

func TestDivByZero(t *testing.T) {
	for _, a := range edges() {
		if q, e := fixed.Div(a, 0); q != 0 || e != api.ErrArg {
			t.Errorf("Div(%d, 0) = %d, %d", a, q, e)
		}
	}
}

func TestFrom(t *testing.T) {
	for _, x := range []struct {
		n    int
		want int32
	}{
		{0, 0}, {1, 256}, {-1, -256}, {-3, -768}, {2047, 524032},
		{8388607, 2147483392}, {8388608, most}, {8388609, most},
		{-8388608, least}, {-8388607, -2147483392}, {-8388609, least},
		{most, most}, {least, least}, {1 << 31, most}, {-1<<31 - 1, least},
		{1 << 32, most}, {1<<32 + 1, most}, {-1 << 32, least}, {1 << 40, most}, {-1 << 40, least},
		{1 << 55, most}, {1 << 56, most}, {1<<56 + 1, most}, {-1 << 55, least}, {-1 << 56, least}, {-1<<56 - 1, least},
		{math.MaxInt, most}, {math.MaxInt - 1, most}, {math.MinInt, least}, {math.MinInt + 1, least},
	} {
		if got := fixed.From(x.n); got != x.want {
			t.Errorf("From(%d) = %d, not %d", x.n, got, x.want)
		}
	}
}

func TestFloor(t *testing.T) {
	for _, x := range []struct {
		a    int32
		want int
	}{
		{0, 0}, {1, 0}, {255, 0}, {256, 1}, {257, 1}, {511, 1}, {512, 2},
		{-1, -1}, {-255, -1}, {-256, -1}, {-257, -2}, {-511, -2}, {-512, -2}, {-513, -3},
		{most, 8388607}, {least, -8388608}, {least + 1, -8388608}, {least + 255, -8388608}, {least + 256, -8388607},
	} {
		if got := fixed.Floor(x.a); got != x.want {
			t.Errorf("Floor(%d) = %d, not %d", x.a, got, x.want)
		}
	}
	for _, a := range edges() {
		n := int64(fixed.Floor(a))
		if n*api.One > int64(a) || (n+1)*api.One <= int64(a) {
			t.Errorf("Floor(%d) = %d", a, n)
		}
	}
}

func TestClamp(t *testing.T) {
	for _, x := range []struct{ a, lo, hi, want int32 }{
		{5, 1, 7, 5}, {1, 1, 7, 1}, {7, 1, 7, 7}, {0, 1, 7, 1}, {8, 1, 7, 7},
		{-5, -7, -1, -5}, {-8, -7, -1, -7}, {0, -7, -1, -1},
		{3, 3, 3, 3}, {2, 3, 3, 3}, {4, 3, 3, 3},
		{least, least, most, least}, {most, least, most, most}, {0, least, most, 0},
		{least, most, most, most}, {most, least, least, least},
		// The lower bound is above: what is below it is it; what is neither is above the upper one.
		{5, 7, 1, 7}, {0, 7, 1, 7}, {1, 7, 1, 7}, {6, 7, 1, 7}, {7, 7, 1, 1}, {8, 7, 1, 1},
		{least, most, least, most}, {most, most, least, least}, {0, most, least, most},
	} {
		if got := fixed.Clamp(x.a, x.lo, x.hi); got != x.want {
			t.Errorf("Clamp(%d, %d, %d) = %d, not %d", x.a, x.lo, x.hi, got, x.want)
		}
	}
}

func TestRoot(t *testing.T) {
	for _, x := range []struct {
		n    uint64
		want uint32
	}{
		{0, 0}, {1, 1}, {2, 1}, {3, 1}, {4, 2}, {8, 2}, {9, 3}, {98, 9}, {99, 9}, {100, 10},
		{1<<62 - 1, 1<<31 - 1}, {1 << 62, 1 << 31}, {1<<63 - 1, 3037000499}, {1 << 63, 3037000499},
		{math.MaxUint64, math.MaxUint32}, {math.MaxUint64 - 1, math.MaxUint32},
		{0xffffffff * 0xffffffff, math.MaxUint32}, {0xffffffff*0xffffffff - 1, math.MaxUint32 - 1},
	} {
		if got := fixed.Root(x.n); got != x.want {
			t.Errorf("Root(%d) = %d, not %d", x.n, got, x.want)
		}
	}
	for i := range 64 {
		for d := range uint64(5) {
			n := uint64(1)<<i + d - 2
			if got, want := uint64(fixed.Root(n)), new(big.Int).Sqrt(new(big.Int).SetUint64(n)).Uint64(); got != want {
				t.Errorf("Root(%d) = %d, not %d", n, got, want)
			}
		}
	}
}

// Around each square that is tried: just below it, itself, just above it.
func TestRootAroundSquares(t *testing.T) {
	for r := uint64(2); r < 1<<32; r += r/7 + 1 {
		for _, x := range []struct{ n, want uint64 }{{r*r - 1, r - 1}, {r * r, r}, {r*r + 1, r}, {r*r + 2*r, r}} {
			if got := uint64(fixed.Root(x.n)); got != x.want {
				t.Fatalf("Root(%d) = %d, not %d", x.n, got, x.want)
			}
		}
	}
}

func TestLen(t *testing.T) {
	for _, x := range []struct{ x, y, want int32 }{
		{0, 0, 0}, {3, 4, 5}, {-3, 4, 5}, {3, -4, 5}, {-3, -4, 5}, {1, 1, 1}, {2, 2, 2}, {0, -7, 7}, {5, 0, 5},
		{768, 1024, 1280}, {most, 0, most}, {0, least, most}, {least, 0, most}, {most, 1, most},
		{least, least, most}, {most, most, most}, {most, least, most}, {1518500249, 1518500249, 2147483646}, {1518500250, 1518500250, most}, {1518500251, 1518500251, most},
	} {
		if got := fixed.Len(x.x, x.y); got != x.want {
			t.Errorf("Len(%d, %d) = %d, not %d", x.x, x.y, got, x.want)
		}
	}
	for _, x := range edges() {
		for _, y := range edges() {
			n := new(big.Int).Add(new(big.Int).Mul(of(x), of(x)), new(big.Int).Mul(of(y), of(y)))
			if got, want := fixed.Len(x, y), kept(n.Sqrt(n)); got != want {
				t.Errorf("Len(%d, %d) = %d, not %d", x, y, got, want)
			}
		}
	}
}
