package net_test

import (
	"bytes"
	"math"
	"runtime"
	"slices"
	"testing"

	"pinnace/api"
	"pinnace/frame"
	"pinnace/net"
)

// beside are places at which a bag of that many has none.
func beside(n int) []int {
	return []int{-1, -2, -n, -n - 1, math.MinInt32, math.MinInt, n, n + 1, 2*n + 1, api.MaxBag, math.MaxInt32, math.MaxInt, 1 << 32}
}

var a, b, c, d = gram{1, "a"}, gram{2, "bb"}, gram{-1, "ccc"}, gram{1, "dddd"}

func TestExample(t *testing.T) {
	x := bagOf(t, 3, a, b)
	x.copy(0, api.OK)
	x.mustHold(a, b, a)
	x.drop(0, api.OK)
	x.mustHold(b, a)
}

// A bag is filled until it is just full, asked for room for one more, and emptied again.
func TestRoom(t *testing.T) {
	for _, n := range []int{1, 2, 3, 17, api.MaxBag - 1, api.MaxBag} {
		x, e := net.New(n)
		if x == nil || e != api.OK || x.Len() != 0 || len(x.To(0)) != 0 {
			t.Fatal(n, e)
		}
		for i := range n {
			if e := x.Put(api.Out{To: i % 16, Frame: []byte{byte(i), byte(i >> 8)}}); e != api.OK || x.Len() != i+1 {
				t.Fatal(n, i, e, x.Len())
			}
		}
		if e := x.Put(api.Out{}); e != api.ErrFull || x.Len() != n {
			t.Fatal(n, e, x.Len())
		}
		if e := x.Copy(n - 1); e != api.ErrFull || x.Len() != n {
			t.Fatal(n, e, x.Len())
		}
		for i := range n {
			o, e := x.Take(0)
			if e != api.OK || o.To != i%16 || !bytes.Equal(o.Frame, []byte{byte(i), byte(i >> 8)}) || x.Len() != n-i-1 {
				t.Fatal(n, i, o, e, x.Len())
			}
		}
		if _, e := x.Take(0); e != api.ErrNone || x.Len() != 0 {
			t.Fatal(n, e)
		}
	}
}

func TestNewOfWhatThereIsNot(t *testing.T) {
	for _, n := range []int{0, -1, -2048, 2049, 2050, 4096, math.MinInt, math.MinInt32, math.MaxInt32, math.MaxInt, 1<<32 + 1} {
		if x, e := net.New(n); x != nil || e != api.ErrArg {
			t.Errorf("New(%d) = %v, %d", n, x, e)
		}
	}
}

// mustHaveNone asks for places at which there is nothing: every call is refused, and nothing changes.
func mustHaveNone(x *pair) {
	x.t.Helper()
	for _, i := range beside(len(x.m.l)) {
		x.take(i, api.ErrNone)
		x.copy(i, api.ErrNone)
		x.drop(i, api.ErrNone)
		x.turn(i, 0, math.MaxUint32, api.ErrNone)
		x.turn(i, math.MaxInt, 0, api.ErrNone)
	}
}

func TestPlacesWithoutDatagrams(t *testing.T) {
	mustHaveNone(mustNew(t, 1))
	mustHaveNone(mustNew(t, api.MaxBag))
	mustHaveNone(bagOf(t, 9, a))
	mustHaveNone(bagOf(t, 9, a, b, c, d))
	// Of a full bag, too: ErrNone goes ahead of ErrFull.
	mustHaveNone(bagOf(t, 1, a))
	mustHaveNone(bagOf(t, 4, a, b, c, d))
	// The places that were left are none any more.
	x := bagOf(t, 4, a, b, c, d)
	x.take(3, api.OK)
	mustHaveNone(x)
	x.drop(0, api.OK)
	mustHaveNone(x)
	x.take(1, api.OK)
	x.drop(0, api.OK)
	mustHaveNone(x)
}

func TestTakeAtEachPlace(t *testing.T) {
	l := []gram{a, b, c, d}
	for i, want := range l {
		x := bagOf(t, 4, l...)
		if g := x.take(i, api.OK); g != want {
			t.Fatal(i, g)
		}
		x.mustHold(slices.Delete(slices.Clone(l), i, i+1)...)
	}
}

func TestDropAtEachPlace(t *testing.T) {
	l := []gram{a, b, c, d}
	for i := range l {
		x := bagOf(t, 4, l...)
		x.drop(i, api.OK)
		x.mustHold(slices.Delete(slices.Clone(l), i, i+1)...)
	}
}

func TestPeekLeavesIt(t *testing.T) {
	x := bagOf(t, 2, a, b)
	for range 3 {
		for i, g := range []gram{a, b} {
			if o, e := x.b.Peek(i); gramOf(o) != g || e != api.OK {
				t.Fatal(i, o, e)
			}
		}
	}
	x.mustHold(a, b)
}

// There is room again behind a Take or a Drop, wherever it was; what comes then stands behind all others.
func TestRoomAgain(t *testing.T) {
	l := []gram{a, b, c}
	for i := range l {
		for _, goes := range []func(x *pair){
			func(x *pair) { x.take(i, api.OK) },
			func(x *pair) { x.drop(i, api.OK) },
		} {
			x := bagOf(t, 3, l...)
			x.put(d, api.ErrFull)
			x.mustHold(l...)
			goes(x)
			x.put(d, api.OK)
			x.mustHold(append(slices.Delete(slices.Clone(l), i, i+1), d)...)
			x.put(a, api.ErrFull)
			goes(x)
			x.copy(0, api.OK)
			x.copy(0, api.ErrFull)
		}
	}
}

func TestRoomForOne(t *testing.T) {
	x := mustNew(t, 1)
	for range 3 {
		x.put(a, api.OK)
		x.put(b, api.ErrFull)
		x.copy(0, api.ErrFull)
		x.mustHold(a)
		x.drop(0, api.OK)
		x.put(b, api.OK)
		if g := x.take(0, api.OK); g != b {
			t.Fatal(g)
		}
		x.mustHold()
	}
}

func TestCopy(t *testing.T) {
	x := bagOf(t, 4, a, b, c)
	x.copy(2, api.OK) // the last one, with room for one more
	x.mustHold(a, b, c, c)
	x.copy(3, api.ErrFull)
	x.copy(0, api.ErrFull)
	x.copy(4, api.ErrNone)
	x.drop(0, api.OK)
	x.copy(0, api.OK)
	x.mustHold(b, c, c, b)
}

func TestCopyOfCopies(t *testing.T) {
	x := bagOf(t, 8, b)
	for i := range 7 {
		x.copy(i, api.OK)
	}
	x.mustHold(b, b, b, b, b, b, b, b)
	x.turn(3, 0, 1, api.OK)
	x.mustHold(b, b, b, gram{2, "cb"}, b, b, b, b)
}

// A copy is a datagram of its own.
func TestCopyGoesItsOwnWay(t *testing.T) {
	other := gram{2, "\x9db"} // b, all bits of the first byte turned
	x := bagOf(t, 3, b)
	x.copy(0, api.OK)
	x.turn(0, 0, 0xff, api.OK)
	x.mustHold(other, b)
	x.turn(1, 0, 0xff, api.OK)
	x.mustHold(other, other)
	x.turn(1, 0, 0xff, api.OK)
	x.mustHold(other, b)
	x.copy(0, api.OK)
	x.mustHold(other, b, other)
	x.turn(2, 0, 0xff, api.OK)
	x.mustHold(other, b, b)
	x.drop(0, api.OK)
	x.turn(0, 8, 1, api.OK)
	x.mustHold(gram{2, "bc"}, b)
}

func TestTo(t *testing.T) {
	least, most := gram{math.MinInt, "x"}, gram{math.MaxInt, "y"}
	x := bagOf(t, 9, a, b, c, d, least, gram{}, most, c)
	for _, y := range []struct {
		to   int
		want []int
	}{
		{1, []int{0, 3}}, {2, []int{1}}, {-1, []int{2, 7}}, {0, []int{5}}, {3, nil}, {-2, nil}, {16, nil}, {256, nil}, {257, nil}, {1 << 32, nil},
		{math.MinInt, []int{4}}, {math.MaxInt, []int{6}}, {math.MinInt + 1, nil}, {math.MaxInt - 1, nil}, {math.MaxInt32, nil},
	} {
		if l := x.b.To(y.to); !slices.Equal(l, y.want) {
			t.Errorf("To(%d) = %d, not %d", y.to, l, y.want)
		}
	}
	x.copy(0, api.OK)
	if l := x.b.To(1); !slices.Equal(l, []int{0, 3, 8}) {
		t.Fatal(l)
	}
	x.drop(0, api.OK)
	if l := x.b.To(1); !slices.Equal(l, []int{2, 7}) {
		t.Fatal(l)
	}
	x.turn(2, 0, math.MaxUint32, api.OK)
	if l := x.b.To(1); !slices.Equal(l, []int{2, 7}) {
		t.Fatal("whom it goes to was turned", l)
	}
}

func TestToOfAll(t *testing.T) {
	x, _ := net.New(api.MaxBag)
	want := []int{}
	for i := range api.MaxBag {
		x.Put(api.Out{To: 7})
		want = append(want, i)
	}
	if l := x.To(7); !slices.Equal(l, want) {
		t.Fatal(l)
	}
	if l := x.To(0); len(l) != 0 {
		t.Fatal(l)
	}
}

func TestFramesWithoutBytes(t *testing.T) {
	for _, p := range [][]byte{nil, {}, roomy("")} {
		x := mustNew(t, 3)
		if e := x.b.Put(api.Out{To: 4, Frame: p}); e != api.OK {
			t.Fatal(e)
		}
		x.m.put(gram{to: 4})
		x.look()
		x.copy(0, api.OK)
		for _, at := range []int{0, 1, -1, -31, math.MinInt, math.MaxInt} {
			x.turn(0, at, math.MaxUint32, api.OK)
		}
		x.put(gram{}, api.OK)
		x.put(a, api.ErrFull)
		x.mustHold(gram{to: 4}, gram{to: 4}, gram{})
		if g := x.take(0, api.OK); g != (gram{to: 4}) {
			t.Fatal(g)
		}
		x.drop(0, api.OK)
	}
}

// Bytes that are no frame of layer 3, and more of them than one has, are carried, too.
func TestLongFrames(t *testing.T) {
	p := make([]byte, 3*api.MaxBody)
	for i := range p {
		p[i] = byte(i * 7)
	}
	x, _ := net.New(2)
	x.Put(api.Out{To: 1, Frame: p})
	x.Turn(0, 8*len(p)-1, 3)
	o, e := x.Take(0)
	p[len(p)-1] ^= 0x80
	if e != api.OK || !bytes.Equal(o.Frame, p) {
		t.Fatal(e, len(o.Frame))
	}
}

// Of a Turn nothing changes but the bits of that frame.
func TestTurn(t *testing.T) {
	nought := gram{5, "\x00\x00"}
	x := bagOf(t, 4, nought, nought, nought)
	x.turn(0, 7, 3, api.OK)
	x.mustHold(gram{5, "\x80\x01"}, nought, nought)
	x.turn(2, 0, 1, api.OK)
	x.mustHold(gram{5, "\x80\x01"}, nought, gram{5, "\x01\x00"})
	x.turn(0, 7, 3, api.OK)
	x.mustHold(nought, nought, gram{5, "\x01\x00"})
	x.turn(1, 15, math.MaxUint32, api.OK)
	x.mustHold(nought, gram{5, "\x00\x80"}, gram{5, "\x01\x00"})
	for _, at := range []int{16, 17, -32, -33, 1000, math.MinInt, math.MinInt + 31, math.MaxInt, math.MaxInt - 31} {
		x.turn(1, at, math.MaxUint32, api.OK)
		x.mustHold(nought, gram{5, "\x00\x80"}, gram{5, "\x01\x00"})
	}
	x.turn(0, 3, 0, api.OK)
	x.mustHold(nought, gram{5, "\x00\x80"}, gram{5, "\x01\x00"})
}

// What a Turn does is what Turned says, at each place.
func TestTurnIsTurned(t *testing.T) {
	for i := range 3 {
		for at := -35; at < 40; at++ {
			for _, pattern := range patterns {
				x, _ := net.New(3)
				want := []gram{{1, "one.."}, {2, "two.."}, {3, "three"}}
				for _, g := range want {
					x.Put(g.out())
				}
				if e := x.Turn(i, at, pattern); e != api.OK {
					t.Fatal(e)
				}
				want[i].frame = string(net.Turned([]byte(want[i].frame), at, pattern))
				(&pair{t: t, b: x}).mustHold(want...)
			}
		}
	}
}

// What is spoilt on the way isn't a frame any more; what is spoilt back is.
func TestSpoiltFrames(t *testing.T) {
	p, _ := frame.Seal([]byte("ahoy"))
	for at := -31; at < 8*len(p); at++ {
		for _, pattern := range patterns {
			x, _ := net.New(2)
			x.Put(api.Out{To: 3, Frame: p})
			x.Copy(0)
			x.Turn(0, at, pattern)
			o, _ := x.Peek(0)
			_, e := frame.Open(o.Frame)
			if same := bytes.Equal(o.Frame, p); same && e != api.OK || !same && e != api.ErrSum {
				t.Fatal(at, pattern, same, e)
			}
			x.Turn(0, at, pattern)
			for range 2 {
				if o, _ := x.Take(0); !bytes.Equal(o.Frame, p) {
					t.Fatal(at, pattern, o)
				}
			}
		}
	}
}

func TestNilBag(t *testing.T) {
	var x *net.Bag
	for _, i := range beside(0) {
		if o, e := x.Take(i); o.To != 0 || o.Frame != nil || e != api.ErrNone {
			t.Error("Take", i, o, e)
		}
		if o, e := x.Peek(i); o.To != 0 || o.Frame != nil || e != api.ErrNone {
			t.Error("Peek", i, o, e)
		}
		for name, e := range map[string]api.Errno{
			"Put": x.Put(api.Out{To: i, Frame: []byte{1}}), "Copy": x.Copy(i), "Drop": x.Drop(i), "Turn": x.Turn(i, i, math.MaxUint32),
		} {
			if e != api.ErrNone {
				t.Error(name, i, e)
			}
		}
		if l := x.To(i); len(l) != 0 {
			t.Error("To", i, l)
		}
	}
	if n := x.Len(); n != 0 {
		t.Error("Len", n)
	}
}

func TestHandedInIsNotChanged(t *testing.T) {
	p := roomy("123")
	was := bytes.Clone(p[:cap(p)])
	x, _ := net.New(2)
	for range 2 {
		x.Put(api.Out{To: 1, Frame: p})
		x.Copy(0)
		x.Put(api.Out{To: 1, Frame: p}) // refused
		for at := -40; at < 70; at++ {
			x.Turn(0, at, math.MaxUint32)
			x.Turn(1, at, 5)
		}
		for range 2 {
			o, _ := x.Take(0)
			spoil(o.Frame, 0xee)
		}
	}
	if !bytes.Equal(p[:cap(p)], was) {
		t.Fatalf("what was handed in is %x, not %x", p[:cap(p)], was)
	}
}

func TestHandedInIsNotKept(t *testing.T) {
	x := mustNew(t, 2)
	p := roomy("bb")
	o := api.Out{To: 2, Frame: p}
	if e := x.b.Put(o); e != api.OK {
		t.Fatal(e)
	}
	x.m.put(b)
	spoil(p, 0xee)
	o.To = 9
	x.look()
	x.copy(0, api.OK)
	spoil(p, 0xdd)
	x.mustHold(b, b)
	// What was refused isn't kept either.
	q := roomy("dddd")
	if e := x.b.Put(api.Out{To: 1, Frame: q}); e != api.ErrFull {
		t.Fatal(e)
	}
	spoil(q, 0xee)
	x.drop(0, api.OK)
	x.mustHold(b)
}

// Two of the same memory are two datagrams.
func TestOneFrameTwice(t *testing.T) {
	p := roomy("bb")
	x, _ := net.New(2)
	x.Put(api.Out{To: 2, Frame: p})
	x.Put(api.Out{To: 2, Frame: p[:1]})
	x.Turn(0, 0, 1)
	(&pair{t: t, b: x}).mustHold(gram{2, "cb"}, gram{2, "b"})
}

// What was handed out stays as it was, whatever becomes of the bag.
func TestHandedOutStays(t *testing.T) {
	x := bagOf(t, 4, a, b, c, d)
	peeked, _ := x.b.Peek(1)
	places := x.b.To(1)
	x.turn(1, 0, math.MaxUint32, api.OK)
	taken, _ := x.b.Take(1)
	x.m.take(1)
	x.copy(1, api.OK)
	x.turn(1, 0, math.MaxUint32, api.OK)
	for range 4 {
		x.drop(0, api.OK)
	}
	for range 4 {
		x.put(gram{8, "other"}, api.OK)
		x.turn(0, 0, math.MaxUint32, api.OK)
	}
	if gramOf(peeked) != b || gramOf(taken) != (gram{2, "\x9d\x9d"}) || !slices.Equal(places, []int{0, 3}) {
		t.Fatal(peeked, taken, places)
	}
}

// Who writes over what was handed out, its spare room too, changes nothing.
func TestHandedOutIsNew(t *testing.T) {
	x := bagOf(t, 5, a, d, b, d)
	x.copy(3, api.OK)
	first, _ := x.b.Peek(3)
	second, _ := x.b.Peek(3)
	spoil(first.Frame, 0xee)
	if gramOf(second) != d {
		t.Fatal("two answers of Peek share memory", second)
	}
	x.look()
	spoil(second.Frame, 0xee)
	x.look()
	third, _ := x.b.Peek(3)
	taken, _ := x.b.Take(3) // of which there is a copy
	x.m.take(3)
	spoil(taken.Frame, 0xee)
	if gramOf(third) != d {
		t.Fatal("Take and Peek share memory", third)
	}
	x.mustHold(a, d, b, d)
	x.look()
	here, there := x.b.To(1), x.b.To(1)
	spoil(here, 99)
	if !slices.Equal(there, []int{0, 1, 3}) {
		t.Fatal("two answers of To share memory", there)
	}
	spoil(there, 99)
	x.look()
	if l := x.b.To(1); !slices.Equal(l, []int{0, 1, 3}) {
		t.Fatal(l)
	}
}

// A datagram that was taken may be put again, and is another one then.
func TestTakenAndPutAgain(t *testing.T) {
	x, _ := net.New(2)
	x.Put(b.out())
	o, _ := x.Take(0)
	x.Put(o)
	spoil(o.Frame, 0xee)
	(&pair{t: t, b: x}).mustHold(b)
}

func TestBagsAreApart(t *testing.T) {
	x, y := bagOf(t, 2, a, b), bagOf(t, 3, a)
	x.turn(0, 0, 1, api.OK)
	y.mustHold(a)
	y.put(c, api.OK)
	y.put(d, api.OK)
	x.put(d, api.ErrFull)
	x.drop(1, api.OK)
	x.mustHold(gram{1, "`"})
	y.mustHold(a, c, d)
}

// inUse is how many bytes of memory something holds.
func inUse() int64 {
	runtime.GC()
	var m runtime.MemStats
	runtime.ReadMemStats(&m)
	return int64(m.HeapAlloc)
}

// What isn't under way any more isn't kept: its memory is free, wherever it stood.
func TestWhatHasGoneIsNotKept(t *testing.T) {
	const size = 1 << 25
	for i := range 3 {
		for name, goes := range map[string]func(x *net.Bag){
			"Take": func(x *net.Bag) { x.Take(i) },
			"Drop": func(x *net.Bag) { x.Drop(i) },
		} {
			x, _ := net.New(3)
			for place := range 3 {
				p := []byte{1}
				if place == i {
					p = make([]byte, size)
				}
				x.Put(api.Out{To: place, Frame: p})
			}
			full := inUse()
			goes(x)
			if free := full - inUse(); free < size/2 {
				t.Errorf("%s(%d) keeps it: only %d bytes are free", name, i, free)
			}
			runtime.KeepAlive(x)
		}
	}
}

// script is many calls thrown by dice, each held against the model; it tells what was answered how often.
func script(t *testing.T, seed int) [2][17]int {
	t.Helper()
	seen := [2][17]int{}
	d := dice(seed)
	x := mustNew(t, 1+d.throw(7))
	note := func(call int, got, want api.Errno) {
		seen[call][got]++
		x.must("a call", got, want, want)
	}
	for range 300 {
		i := d.throw(len(x.m.l)+3) - 1
		switch d.throw(8) {
		case 0, 1, 2:
			g := gram{d.throw(5) - 1, string(make([]byte, d.throw(6)))}
			note(0, x.b.Put(g.out()), x.m.put(g))
		case 3:
			o, e := x.b.Take(i)
			g, want := x.m.take(i)
			if gramOf(o) != g {
				t.Fatal(seed, i, o, g)
			}
			note(1, e, want)
		case 4:
			_, want := x.m.take(i)
			note(1, x.b.Drop(i), want)
		case 5:
			note(0, x.b.Copy(i), x.m.copy(i))
		default:
			at, pattern := d.throw(100)-45, uint32(d.throw(1<<30))<<d.throw(3)
			note(1, x.b.Turn(i, at, pattern), x.m.turn(i, at, pattern))
		}
	}
	return seen
}

func TestScripts(t *testing.T) {
	sum := [2][17]int{}
	for seed := range 60 {
		for call, l := range script(t, seed) {
			for e, n := range l {
				sum[call][e] += n
			}
		}
	}
	if sum[0][api.OK] == 0 || sum[0][api.ErrFull] == 0 || sum[0][api.ErrNone] == 0 || sum[1][api.OK] == 0 || sum[1][api.ErrNone] == 0 {
		t.Fatal("the scripts don't come everywhere", sum)
	}
}
