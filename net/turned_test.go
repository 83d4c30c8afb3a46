package net_test

import (
	"bytes"
	"math"
	"slices"
	"testing"

	"pinnace/net"
)

// patterns are none, one bit (the first, one between, the last), several, and all.
var patterns = []uint32{0, 1, 2, 1 << 13, 1 << 31, 3, 0x80000001, 0xa5c396f1, 0x0ff0, 0x7fffffff, 0xfffffffe, math.MaxUint32}

func TestTurnedExample(t *testing.T) {
	if p := net.Turned([]byte{0, 0}, 7, 3); !bytes.Equal(p, []byte{0x80, 0x01}) {
		t.Fatalf("%x", p)
	}
}

func TestTurned(t *testing.T) {
	nought, all := []byte{0, 0, 0, 0, 0, 0}, []byte{255, 255, 255, 255, 255, 255}
	for _, x := range []struct {
		p       []byte
		at      int
		pattern uint32
		want    []byte
	}{
		{nought, 0, 0, nought},
		{all, 5, 0, all},
		{nought, 0, 1, []byte{1, 0, 0, 0, 0, 0}},
		{all, 0, 1, []byte{254, 255, 255, 255, 255, 255}},
		{nought, 1, 1, []byte{2, 0, 0, 0, 0, 0}},
		{nought, 8, 1, []byte{0, 1, 0, 0, 0, 0}},
		{nought, 47, 1, []byte{0, 0, 0, 0, 0, 0x80}},
		{nought, 0, math.MaxUint32, []byte{255, 255, 255, 255, 0, 0}},
		{all, 0, math.MaxUint32, []byte{0, 0, 0, 0, 255, 255}},
		{nought, 4, math.MaxUint32, []byte{0xf0, 255, 255, 255, 0x0f, 0}},
		{nought, 16, math.MaxUint32, []byte{0, 0, 255, 255, 255, 255}},
		{nought, 17, math.MaxUint32, []byte{0, 0, 254, 255, 255, 255}}, // over the end
		{nought, 47, math.MaxUint32, []byte{0, 0, 0, 0, 0, 0x80}},
		{nought, 48, math.MaxUint32, nought}, // wholly behind it
		{nought, 48, 1, nought},
		{nought, -1, 1, nought},
		{nought, -1, 2, []byte{1, 0, 0, 0, 0, 0}}, // ahead of it, and into it
		{nought, -1, math.MaxUint32, []byte{255, 255, 255, 0x7f, 0, 0}},
		{nought, -8, math.MaxUint32, []byte{255, 255, 255, 0, 0, 0}},
		{nought, -31, math.MaxUint32, []byte{1, 0, 0, 0, 0, 0}},
		{nought, -31, 1 << 31, []byte{1, 0, 0, 0, 0, 0}},
		{nought, -31, math.MaxUint32 >> 1, nought},
		{nought, -32, math.MaxUint32, nought}, // wholly ahead of it
		{[]byte{0x5a}, 4, 0x1f, []byte{0xaa}},
		{[]byte{0x5a}, 2, 1<<31 | 1, []byte{0x5e}},
	} {
		if p := net.Turned(x.p, x.at, x.pattern); !bytes.Equal(p, x.want) {
			t.Errorf("Turned(%x, %d, %x) = %x, not %x", x.p, x.at, x.pattern, p, x.want)
		}
	}
}

// Each single bit of a pattern at each place is just that bit of layer 1.
func TestTurnedSingleBits(t *testing.T) {
	for at := -40; at < 60; at++ {
		for k := range 32 {
			want := make([]byte, 5)
			if bit := at + k; 0 <= bit && bit < 40 {
				want[bit/8] = []byte{1, 2, 4, 8, 16, 32, 64, 128}[bit%8]
			}
			if p := net.Turned(make([]byte, 5), at, 1<<k); !bytes.Equal(p, want) {
				t.Fatalf("%d, bit %d: %x, not %x", at, k, p, want)
			}
		}
	}
}

func TestTurnedAgainstTheModel(t *testing.T) {
	d := dice(7)
	for size := range 8 {
		for at := -36; at <= 8*size+36; at++ {
			p := []byte{}
			for range size {
				p = append(p, byte(d.throw(256)))
			}
			for _, pattern := range append(slices.Clone(patterns), uint32(d.throw(1<<31)), uint32(d.throw(1<<31))<<1) {
				if got, want := net.Turned(p, at, pattern), turned(t, p, at, pattern); !bytes.Equal(got, want) {
					t.Fatalf("Turned(%x, %d, %x) = %x, not %x", p, at, pattern, got, want)
				}
			}
		}
	}
}

// far are places so far off that no bit is reached, and at which sums may wrap round.
func far() []int {
	l := []int{1 << 20, -1 << 20, math.MaxInt32, math.MinInt32, 1 << 31, 1 << 32, 1<<32 + 7, -1 << 32, math.MaxInt / 8, math.MinInt / 8, 1 << 61, -1 << 61, 1 << 60}
	for k := range 40 {
		l = append(l, math.MaxInt-k, math.MinInt+k, math.MaxInt32-k, math.MinInt32+k)
	}
	return l
}

func TestTurnedFarOff(t *testing.T) {
	for _, p := range [][]byte{nil, {0}, {1, 2, 3, 4, 5, 6, 7, 8, 9, 10}} {
		for _, at := range far() {
			for _, pattern := range patterns {
				got, want := net.Turned(p, at, pattern), turned(t, p, at, pattern)
				if !bytes.Equal(got, want) || !bytes.Equal(got, p) {
					t.Fatalf("Turned(%x, %d, %x) = %x", p, at, pattern, got)
				}
			}
		}
	}
}

func TestTurnedTwice(t *testing.T) {
	p := []byte{1, 2, 3, 4, 5}
	for at := -40; at < 80; at++ {
		for _, pattern := range patterns {
			if q := net.Turned(net.Turned(p, at, pattern), at, pattern); !bytes.Equal(q, p) {
				t.Fatalf("%d, %x: %x", at, pattern, q)
			}
		}
	}
}

func TestTurnedOfNothing(t *testing.T) {
	for _, p := range [][]byte{nil, {}, roomy("")} {
		for _, at := range append(far(), 0, 1, -1, -31, 31) {
			if q := net.Turned(p, at, math.MaxUint32); len(q) != 0 {
				t.Fatal(at, q)
			}
		}
	}
}

// Neither p nor its spare room is written or shared, whether a bit is turned or none.
func TestTurnedIsNew(t *testing.T) {
	for _, pattern := range patterns {
		for _, at := range []int{0, 20, 24, -31, -40, math.MaxInt, math.MinInt} {
			p := roomy("123")
			was := bytes.Clone(p[:cap(p)])
			first, second := net.Turned(p, at, pattern), net.Turned(p, at, pattern)
			if !bytes.Equal(p[:cap(p)], was) {
				t.Fatalf("%d, %x: what was handed in is %x", at, pattern, p[:cap(p)])
			}
			want := bytes.Clone(second)
			spoil(first, 0xee)
			if !bytes.Equal(p[:cap(p)], was) || !bytes.Equal(second, want) {
				t.Fatalf("%d, %x: memory is shared", at, pattern)
			}
			spoil(p, 0xdd)
			if !bytes.Equal(second, want) {
				t.Fatalf("%d, %x: memory is shared with what was handed in", at, pattern)
			}
		}
	}
}
