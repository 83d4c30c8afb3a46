package frame_test

import (
	"bytes"
	"hash/crc32"
	"testing"

	"pinnace/api"
	"pinnace/frame"
)

// body is n bytes that differ from one another and from those of another seed.
func body(n, seed int) []byte {
	p := make([]byte, n)
	s := uint32(seed)*2654435761 + 1
	for i := range p {
		s = s*1664525 + 1013904223
		p[i] = byte(s >> 24)
	}
	return p
}

func mustSeal(t *testing.T, b []byte) []byte {
	t.Helper()
	p, e := frame.Seal(b)
	if e != api.OK {
		t.Fatalf("Seal of %d bytes: %d", len(b), e)
	}
	return p
}

// refused tells whether Open answers want and no body.
func refused(t *testing.T, what string, p []byte, want api.Errno) {
	t.Helper()
	was := bytes.Clone(p)
	if b, e := frame.Open(p); len(b) != 0 || e != want {
		t.Fatalf("%s: Open of %d bytes is %x, %d, not %d", what, len(p), b, e, want)
	}
	if !bytes.Equal(p, was) {
		t.Fatalf("%s: Open has changed what it was given", what)
	}
}

// turn turns the bits of the mask from the bit at on, by layer 1's count: the lowest bit of a byte first.
func turn(p []byte, at int, mask uint32) {
	for k := range 32 {
		if mask>>k&1 != 0 {
			p[(at+k)/8] ^= 1 << ((at + k) % 8)
		}
	}
}

func TestSum(t *testing.T) {
	for _, x := range []struct {
		text string
		want uint32
	}{
		{"123456789", 0xcbf43926},
		{"", 0},
		{"a", 0xe8b7be43},
		{"\x00", 0xd202ef8d},
		{"\xff\xff\xff\xff", 0xffffffff},
		{"The quick brown fox jumps over the lazy dog", 0x414fa339},
	} {
		if s := frame.Sum([]byte(x.text)); s != x.want {
			t.Errorf("Sum(%q) = %08x, not %08x", x.text, s, x.want)
		}
	}
	if frame.Sum(nil) != 0 {
		t.Error(frame.Sum(nil))
	}
}

func TestSumOfEveryByte(t *testing.T) {
	for b := range 256 {
		for _, p := range [][]byte{{byte(b)}, {0, byte(b)}, {byte(b), 0xff, 0}} {
			if s, want := frame.Sum(p), crc32.ChecksumIEEE(p); s != want {
				t.Fatalf("Sum(%x) = %08x, not %08x", p, s, want)
			}
		}
	}
}

// A sum has no bound of its own: bodies have.
func TestSumOfManyLengths(t *testing.T) {
	for _, n := range []int{0, 1, 2, 3, 4, 5, 7, 8, 9, 63, 64, 65, api.MaxBody, api.MaxBody + 1, api.MaxBody + 5, 100000} {
		for seed := range 5 {
			p := body(n, seed)
			was := bytes.Clone(p)
			if s, want := frame.Sum(p), crc32.ChecksumIEEE(p); s != want {
				t.Fatalf("%d bytes: %08x, not %08x", n, s, want)
			}
			if !bytes.Equal(p, was) {
				t.Fatal("Sum has changed what it was given")
			}
		}
	}
}

func TestSealExamples(t *testing.T) {
	for _, b := range [][]byte{nil, {}} {
		if p := mustSeal(t, b); !bytes.Equal(p, []byte{0, 0, 0, 0}) {
			t.Fatalf("%x", p)
		}
	}
	// The sum stands with its lowest byte first.
	if p := mustSeal(t, []byte("123456789")); !bytes.Equal(p, []byte("123456789\x26\x39\xf4\xcb")) {
		t.Fatalf("%x", p)
	}
}

func TestSealAndOpen(t *testing.T) {
	for _, n := range []int{0, 1, 2, 3, 4, 5, 100, api.MaxBody - 1, api.MaxBody} {
		b := body(n, n)
		p := mustSeal(t, b)
		if len(p) != n+4 || !bytes.Equal(p[:n], b) {
			t.Fatalf("a body of %d bytes: a frame of %d", n, len(p))
		}
		back, e := frame.Open(p)
		if e != api.OK || !bytes.Equal(back, b) {
			t.Fatalf("%d bytes: Open answers %d bytes, %d", n, len(back), e)
		}
	}
}

func TestSealRefusesLongBodies(t *testing.T) {
	for _, n := range []int{api.MaxBody + 1, api.MaxBody + 4, 2 * api.MaxBody, 100000} {
		if p, e := frame.Seal(make([]byte, n)); len(p) != 0 || e != api.ErrLong {
			t.Errorf("Seal of %d bytes: %d bytes, %d", n, len(p), e)
		}
	}
}

func TestOpenRefusesShortFrames(t *testing.T) {
	refused(t, "nil", nil, api.ErrShort)
	for n := range 4 {
		refused(t, "zeros", make([]byte, n), api.ErrShort)
		refused(t, "others", body(n, 1), api.ErrShort)
		refused(t, "a frame's beginning", mustSeal(t, []byte{7})[:n], api.ErrShort)
	}
}

func TestOpenRefusesLongFrames(t *testing.T) {
	for _, n := range []int{api.MaxBody + 1, api.MaxBody + 2, 2 * api.MaxBody} {
		b := body(n, 3)
		refused(t, "the sum isn't right", append(bytes.Clone(b), 1, 2, 3, 4), api.ErrLong)
		// Its sum may be right: it is too long all the same.
		s := crc32.ChecksumIEEE(b)
		refused(t, "the sum is right", append(b, byte(s), byte(s>>8), byte(s>>16), byte(s>>24)), api.ErrLong)
	}
}

func TestOpenRefusesOtherSums(t *testing.T) {
	refused(t, "nothing, and a sum", []byte{1, 0, 0, 0}, api.ErrSum)
	refused(t, "nothing, and all bits", []byte{0xff, 0xff, 0xff, 0xff}, api.ErrSum)
	refused(t, "zeros", make([]byte, 5), api.ErrSum)
	refused(t, "many zeros", make([]byte, api.MaxBody+4), api.ErrSum)
	refused(t, "the highest byte first", []byte("123456789\xcb\xf4\x39\x26"), api.ErrSum)
	refused(t, "no bits turned at the end", []byte("123456789\xd9\xc6\x0b\x34"), api.ErrSum)
	p := mustSeal(t, body(50, 9))
	refused(t, "a byte less in front", p[1:], api.ErrSum)
	refused(t, "a byte less behind", p[:len(p)-1], api.ErrSum)
	refused(t, "a byte more", append(bytes.Clone(p), 0), api.ErrSum)
}

// masks are bits within 32, beginning with the first: single ones, runs, both ends, and others.
func masks() []uint32 {
	out := []uint32{0xedb88320 | 1, 0x80000001, 0xdb710641, 0x04c11db7, 0xaaaaaaab}
	for k := range 32 {
		out = append(out, 1<<k|1, 1<<k-1|1, 0xffffffff>>k)
	}
	for k := range 16 {
		out = append(out, uint32(k)*0x9e3779b9|1)
	}
	return out
}

// bursts turns bits of p at each of the places from first on, and tells whether it stays a frame.
func bursts(t *testing.T, p []byte, first int) {
	t.Helper()
	for at := first; at < 8*len(p); at++ {
		for _, m := range masks() {
			// Bits that would stand behind the frame's end aren't there to be turned.
			if room := 8*len(p) - at; room < 32 {
				m &= 1<<room - 1
			}
			turn(p, at, m)
			if b, e := frame.Open(p); len(b) != 0 || e != api.ErrSum {
				t.Fatalf("a frame of %d bytes, from bit %d on %08x turned: %x, %d", len(p), at, m, b, e)
			}
			turn(p, at, m)
		}
	}
	if _, e := frame.Open(p); e != api.OK {
		t.Fatal("turned back, it is no frame", e)
	}
}

// In the body, across its end, and in the sum.
func TestBursts(t *testing.T) {
	for _, n := range []int{0, 1, 2, 3, 4, 5, 8, 31} {
		bursts(t, mustSeal(t, body(n, n)), 0)
		bursts(t, mustSeal(t, make([]byte, n)), 0)
	}
	bursts(t, mustSeal(t, bytes.Repeat([]byte{0xff}, 9)), 0)
}

func TestBurstsOfTheLongestFrame(t *testing.T) {
	p := mustSeal(t, body(api.MaxBody, 1))
	bursts(t, p, 8*len(p)-40)
	for at := 0; at < 8*api.MaxBody; at += 257 {
		for _, m := range []uint32{1, 0x80000001, 0xffffffff, 0xedb88321} {
			turn(p, at, m)
			if b, e := frame.Open(p); len(b) != 0 || e != api.ErrSum {
				t.Fatalf("from bit %d on %08x turned: %d bytes, %d", at, m, len(b), e)
			}
			turn(p, at, m)
		}
	}
}

// Every way to turn bits within two bytes of a short frame.
func TestBurstsOfSixteenBits(t *testing.T) {
	p := mustSeal(t, []byte{0xc5, 0x3a})
	for at := range 8*len(p) - 15 {
		for m := uint32(1); m < 1<<16; m++ {
			turn(p, at, m)
			if _, e := frame.Open(p); e != api.ErrSum {
				t.Fatalf("from bit %d on %04x turned: %d", at, m, e)
			}
			turn(p, at, m)
		}
	}
}

// spoil writes over all of a list, its spare room too.
func spoil(p []byte) {
	for i := range p[:cap(p)] {
		p[:cap(p)][i] ^= 0x5a
	}
}

func TestSealMemory(t *testing.T) {
	whole := body(40, 2)
	was := bytes.Clone(whole)
	first, second := mustSeal(t, whole[:20]), mustSeal(t, whole[:20])
	want := bytes.Clone(first)
	if !bytes.Equal(whole, was) {
		t.Fatal("Seal has changed what it was given, or its spare room")
	}
	spoil(first)
	if !bytes.Equal(whole, was) || !bytes.Equal(second, want) {
		t.Fatal("an answer shares memory")
	}
	spoil(whole)
	if !bytes.Equal(second, want) {
		t.Fatal("an answer shares memory with what was given")
	}
}

func TestOpenMemory(t *testing.T) {
	for _, n := range []int{0, 1, 20} {
		whole := append(mustSeal(t, body(n, 2)), 1, 2, 3, 4, 5)
		was := bytes.Clone(whole)
		first, _ := frame.Open(whole[:n+4])
		second, _ := frame.Open(whole[:n+4])
		if !bytes.Equal(whole, was) {
			t.Fatal("Open has changed what it was given, or its spare room")
		}
		spoil(first)
		if !bytes.Equal(whole, was) || !bytes.Equal(second, was[:n]) {
			t.Fatal("an answer shares memory")
		}
		spoil(whole)
		if !bytes.Equal(second, was[:n]) {
			t.Fatal("an answer shares memory with what was given")
		}
	}
}
