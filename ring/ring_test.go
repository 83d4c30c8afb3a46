package ring_test

import (
	"math"
	"runtime"
	"slices"
	"strconv"
	"testing"
	"weak"

	"pinnace/api"
	"pinnace/ring"
)

func mustNew(t *testing.T, k int) *ring.Ring[string] {
	t.Helper()
	r, e := ring.New[string](k)
	if r == nil || e != api.OK {
		t.Fatalf("New(%d) = %v, %d", k, r, e)
	}
	return r
}

func mustPut(t *testing.T, r *ring.Ring[string], tick uint32, v string) {
	t.Helper()
	if e := r.Put(tick, v); e != api.OK {
		t.Fatalf("Put(%d, %s) = %d", tick, v, e)
	}
}

func mustCut(t *testing.T, r *ring.Ring[string], tick uint32, want int) {
	t.Helper()
	if n := r.Cut(tick); n != want {
		t.Fatalf("Cut(%d) = %d, not %d", tick, n, want)
	}
}

func mustNotGet(t *testing.T, r *ring.Ring[string], ticks ...uint32) {
	t.Helper()
	for _, tick := range ticks {
		if v, ok := r.Get(tick); v != "" || ok {
			t.Fatalf("Get(%d) = %q, %v", tick, v, ok)
		}
	}
}

// pair is a thing and its tick.
type pair struct {
	tick uint32
	v    string
}

// mustHold asks for everything that r tells.
func mustHold(t *testing.T, r *ring.Ring[string], want ...pair) {
	t.Helper()
	ticks := []uint32{}
	for _, x := range want {
		ticks = append(ticks, x.tick)
		if v, ok := r.Get(x.tick); v != x.v || !ok {
			t.Fatalf("Get(%d) = %q, %v, not %q", x.tick, v, ok, x.v)
		}
		for _, near := range []uint32{x.tick - 1, x.tick + 1} {
			if !slices.ContainsFunc(want, func(y pair) bool { return y.tick == near }) {
				mustNotGet(t, r, near)
			}
		}
	}
	if l := r.Ticks(); !slices.Equal(l, ticks) {
		t.Fatalf("Ticks = %d, not %d", l, ticks)
	}
	if n := r.Len(); n != len(want) {
		t.Fatalf("Len = %d, not %d", n, len(want))
	}
	last, some := pair{}, len(want) > 0
	if some {
		last = want[len(want)-1]
	}
	if tick, v, ok := r.Last(); tick != last.tick || v != last.v || ok != some {
		t.Fatalf("Last = %d, %q, %v, not %d, %q, %v", tick, v, ok, last.tick, last.v, some)
	}
}

func TestExample(t *testing.T) {
	r := mustNew(t, 2)
	mustPut(t, r, 5, "a")
	mustPut(t, r, 9, "b")
	if e := r.Put(9, "c"); e != api.ErrStale {
		t.Fatal(e)
	}
	mustPut(t, r, 12, "c")
	mustHold(t, r, pair{9, "b"}, pair{12, "c"})
	mustNotGet(t, r, 5)
	mustCut(t, r, 12, 1)
	mustHold(t, r, pair{12, "c"})
}

func TestNewEdges(t *testing.T) {
	for _, k := range []int{1, 2, 63, 64} {
		mustHold(t, mustNew(t, k))
	}
}

func TestNewOfWhatThereIsNot(t *testing.T) {
	for _, k := range []int{0, -1, -64, 65, 66, 128, math.MinInt, math.MinInt32, math.MaxInt32, math.MaxInt, 1<<32 + 1} {
		if r, e := ring.New[string](k); r != nil || e != api.ErrArg {
			t.Errorf("New(%d) = %v, %d", k, r, e)
		}
	}
}

func TestEmptyRing(t *testing.T) {
	r := mustNew(t, 3)
	mustHold(t, r)
	mustNotGet(t, r, 0, 1, math.MaxUint32)
	mustCut(t, r, 0, 0)
	mustCut(t, r, math.MaxUint32, 0)
	r.Clear()
	mustHold(t, r)
}

// things are those of the ticks from lo to hi, each by its tick's name.
func things(lo, hi int) []pair {
	l := []pair{}
	for i := lo; i <= hi; i++ {
		l = append(l, pair{uint32(i), strconv.Itoa(i)})
	}
	return l
}

// Each number of things, the room for one and for all of them, and three times round.
func TestRoom(t *testing.T) {
	for _, k := range []int{1, 2, 3, api.MaxRing - 1, api.MaxRing} {
		r := mustNew(t, k)
		for i := 1; i <= 3*k+1; i++ {
			mustPut(t, r, uint32(i), strconv.Itoa(i))
			mustHold(t, r, things(max(1, i-k+1), i)...)
		}
	}
}

func TestStale(t *testing.T) {
	r := mustNew(t, 3)
	mustPut(t, r, 10, "a")
	mustPut(t, r, 20, "b")
	for _, tick := range []uint32{20, 19, 15, 11, 10, 9, 1, 0} {
		if e := r.Put(tick, "x"); e != api.ErrStale {
			t.Errorf("Put(%d) = %d", tick, e)
		}
		mustHold(t, r, pair{10, "a"}, pair{20, "b"})
	}
	mustPut(t, r, 21, "c")
	// Of a full ring nothing goes for what is refused.
	for _, tick := range []uint32{21, 20, 10, 0} {
		if e := r.Put(tick, "x"); e != api.ErrStale {
			t.Errorf("Put(%d) = %d", tick, e)
		}
		mustHold(t, r, pair{10, "a"}, pair{20, "b"}, pair{21, "c"})
	}
	mustPut(t, r, 22, "d")
	mustHold(t, r, pair{20, "b"}, pair{21, "c"}, pair{22, "d"})
}

func TestFirstAndLastTick(t *testing.T) {
	r := mustNew(t, 2)
	mustPut(t, r, 0, "zero")
	mustHold(t, r, pair{0, "zero"})
	if e := r.Put(0, "x"); e != api.ErrStale {
		t.Fatal(e)
	}
	mustCut(t, r, 0, 0)
	mustPut(t, r, math.MaxUint32, "top")
	mustHold(t, r, pair{0, "zero"}, pair{math.MaxUint32, "top"})
	for _, tick := range []uint32{math.MaxUint32, math.MaxUint32 - 1, math.MaxInt32 + 1, 1, 0} {
		if e := r.Put(tick, "x"); e != api.ErrStale {
			t.Errorf("Put(%d) = %d", tick, e)
		}
	}
	mustCut(t, r, 1, 1)
	mustHold(t, r, pair{math.MaxUint32, "top"})
	mustCut(t, r, math.MaxUint32, 0)
	mustHold(t, r, pair{math.MaxUint32, "top"})
}

// Ticks are held against each other without signs.
func TestTicksAboveTheMiddle(t *testing.T) {
	r := mustNew(t, 4)
	mustPut(t, r, math.MaxInt32, "a")
	mustPut(t, r, math.MaxInt32+1, "b")
	mustPut(t, r, math.MaxUint32-1, "c")
	mustHold(t, r, pair{math.MaxInt32, "a"}, pair{math.MaxInt32 + 1, "b"}, pair{math.MaxUint32 - 1, "c"})
	mustCut(t, r, math.MaxInt32+1, 1)
	mustHold(t, r, pair{math.MaxInt32 + 1, "b"}, pair{math.MaxUint32 - 1, "c"})
}

func TestCut(t *testing.T) {
	for _, x := range []struct {
		tick uint32
		gone int
	}{
		{0, 0}, {1, 0}, {9, 0}, {10, 0}, {11, 1}, {19, 1}, {20, 1}, {21, 2}, {30, 2}, {31, 3}, {40, 3}, {41, 4}, {1000, 4}, {math.MaxUint32, 4},
	} {
		r := mustNew(t, 4)
		all := []pair{{10, "a"}, {20, "b"}, {30, "c"}, {40, "d"}}
		for _, y := range all {
			mustPut(t, r, y.tick, y.v)
		}
		mustCut(t, r, x.tick, x.gone)
		mustHold(t, r, all[x.gone:]...)
		mustCut(t, r, x.tick, 0)
		mustHold(t, r, all[x.gone:]...)
		for _, y := range all[:x.gone] {
			mustNotGet(t, r, y.tick)
		}
	}
}

func TestCutAndFilledAgain(t *testing.T) {
	r := mustNew(t, 3)
	for i := range 4 {
		mustPut(t, r, uint32(i), strconv.Itoa(i))
	}
	mustCut(t, r, 3, 2)
	mustHold(t, r, things(3, 3)...)
	// Two have room again; only then one goes.
	mustPut(t, r, 4, "4")
	mustPut(t, r, 5, "5")
	mustHold(t, r, things(3, 5)...)
	mustPut(t, r, 6, "6")
	mustHold(t, r, things(4, 6)...)
}

// A tick is stale behind what is held, not behind what was.
func TestEmptiedAndFilledAgain(t *testing.T) {
	for _, empty := range []func(*ring.Ring[string]){
		func(r *ring.Ring[string]) { r.Clear() },
		func(r *ring.Ring[string]) { mustCut(t, r, math.MaxUint32, 2) },
	} {
		r := mustNew(t, 2)
		mustPut(t, r, 8, "a")
		mustPut(t, r, 9, "b")
		empty(r)
		mustHold(t, r)
		mustNotGet(t, r, 8, 9)
		mustPut(t, r, 0, "0")
		mustPut(t, r, 1, "1")
		mustHold(t, r, things(0, 1)...)
		mustPut(t, r, 2, "2")
		mustHold(t, r, things(1, 2)...)
	}
}

func TestNilRing(t *testing.T) {
	var r *ring.Ring[string]
	for _, tick := range []uint32{0, 1, math.MaxUint32} {
		if e := r.Put(tick, "x"); e != api.ErrNone {
			t.Errorf("Put(%d) = %d", tick, e)
		}
		mustNotGet(t, r, tick)
		mustCut(t, r, tick, 0)
	}
	r.Clear()
	mustHold(t, r)
}

func TestTicksAreTheirOwn(t *testing.T) {
	r := mustNew(t, 2)
	mustPut(t, r, 1, "1")
	mustPut(t, r, 2, "2")
	a, b := r.Ticks(), r.Ticks()
	mustPut(t, r, 3, "3")
	mustCut(t, r, 3, 1)
	mustPut(t, r, 4, "4")
	want := []uint32{1, 2}
	if !slices.Equal(a, want) || !slices.Equal(b, want) {
		t.Fatal("later calls changed a list", a, b)
	}
	for _, l := range [][]uint32{a, r.Ticks()} {
		l = l[:cap(l)]
		for i := range l {
			l[i] = 77
		}
	}
	if !slices.Equal(b, want) {
		t.Fatal("one list stands in another", b)
	}
	mustHold(t, r, things(3, 4)...)
}

// What was handed out stays what it is when the thing goes and others come into its place.
func TestThingsHandedOutStay(t *testing.T) {
	r, e := ring.New[[3]int](1)
	if e != api.OK {
		t.Fatal(e)
	}
	r.Put(1, [3]int{1, 2, 3})
	v, _ := r.Get(1)
	_, last, _ := r.Last()
	r.Put(2, [3]int{7, 8, 9})
	r.Clear()
	r.Put(1, [3]int{4, 5, 6})
	if want := [3]int{1, 2, 3}; v != want || last != want {
		t.Fatal(v, last)
	}
	v[0] = 77
	if x, _ := r.Get(1); x != [3]int{4, 5, 6} {
		t.Fatal(x)
	}
}

func TestPartsAreShared(t *testing.T) {
	r, e := ring.New[[]byte](2)
	if e != api.OK {
		t.Fatal(e)
	}
	p := []byte{1, 2, 3}
	r.Put(1, p)
	p[0] = 9
	v, _ := r.Get(1)
	v[1] = 8
	_, last, _ := r.Last()
	if want := []byte{9, 8, 3}; !slices.Equal(last, want) || !slices.Equal(p, want) {
		t.Fatal(last, p)
	}
}

// A thing that is the zero value is there all the same.
func TestZeroThings(t *testing.T) {
	r := mustNew(t, 2)
	mustPut(t, r, 0, "")
	mustHold(t, r, pair{0, ""})
	mustPut(t, r, 3, "")
	mustHold(t, r, pair{0, ""}, pair{3, ""})
	p, e := ring.New[*int](1)
	if e != api.OK {
		t.Fatal(e)
	}
	p.Put(4, nil)
	if v, ok := p.Get(4); v != nil || !ok {
		t.Fatal(v, ok)
	}
	if v, ok := p.Get(5); v != nil || ok {
		t.Fatal(v, ok)
	}
}

func TestRingsAreApart(t *testing.T) {
	a, b := mustNew(t, 2), mustNew(t, 2)
	mustPut(t, a, 1, "1")
	mustHold(t, b)
	mustPut(t, b, 1, "other")
	mustHold(t, a, pair{1, "1"})
	a.Clear()
	mustHold(t, b, pair{1, "other"})
}

// What has gone isn't kept: nothing else holds it, so it is collected.
func TestWhatHasGoneIsNotKept(t *testing.T) {
	type big [64]*int
	const k = 4
	for name, goes := range map[string]func(*ring.Ring[*big]){
		"Put": func(r *ring.Ring[*big]) {
			for i := range k {
				r.Put(uint32(100+i), nil)
			}
		},
		"Cut":   func(r *ring.Ring[*big]) { r.Cut(100) },
		"Clear": func(r *ring.Ring[*big]) { r.Clear() },
	} {
		r, _ := ring.New[*big](k)
		seen := []weak.Pointer[big]{}
		for i := range k {
			p := new(big)
			seen = append(seen, weak.Make(p))
			r.Put(uint32(i), p)
		}
		goes(r)
		runtime.GC()
		for i, w := range seen {
			if w.Value() != nil {
				t.Error(name, "keeps", i)
			}
		}
		runtime.KeepAlive(r)
	}
}

// plain is a ring as the chapter says it: all pairs that are held, in no order that counts.
type plain struct {
	k    int
	held map[uint32]string
}

func (p *plain) ticks() []uint32 {
	l := []uint32{}
	for tick := range p.held {
		l = append(l, tick)
	}
	slices.Sort(l)
	return l
}

func (p *plain) pairs() []pair {
	l := []pair{}
	for _, tick := range p.ticks() {
		l = append(l, pair{tick, p.held[tick]})
	}
	return l
}

func (p *plain) put(tick uint32, v string) api.Errno {
	for old := range p.held {
		if tick <= old {
			return api.ErrStale
		}
	}
	if len(p.held) == p.k {
		delete(p.held, p.ticks()[0])
	}
	p.held[tick] = v
	return api.OK
}

func (p *plain) cut(tick uint32) int {
	n := 0
	for old := range p.held {
		if old < tick {
			delete(p.held, old)
			n++
		}
	}
	return n
}

// Every script of five steps, of puts and cuts at a few ticks, and a clear.
func TestScripts(t *testing.T) {
	ticks := []uint32{0, 1, 2, 3, math.MaxUint32}
	kinds := 2*len(ticks) + 1
	for _, k := range []int{1, 2, 3} {
		for script := range kinds * kinds * kinds * kinds * kinds {
			r, p := mustNew(t, k), &plain{k, map[uint32]string{}}
			left := script
			for range 5 {
				runStep(t, r, p, left%kinds, ticks)
				left /= kinds
			}
		}
	}
}

func runStep(t *testing.T, r *ring.Ring[string], p *plain, step int, ticks []uint32) {
	t.Helper()
	switch n := len(ticks); {
	case step < n:
		tick, v := ticks[step], "v"+strconv.Itoa(step)
		e := r.Put(tick, v)
		if want := p.put(tick, v); e != want {
			t.Fatalf("Put(%d) = %d, not %d", tick, e, want)
		}
	case step < 2*n:
		mustCut(t, r, ticks[step-n], p.cut(ticks[step-n]))
	default:
		r.Clear()
		clear(p.held)
	}
	mustHold(t, r, p.pairs()...)
}
