package world_test

import (
	"cmp"
	"math"
	"slices"
	"testing"

	"pinnace/api"
	"pinnace/orders"
	"pinnace/store"
	"pinnace/systems"
	"pinnace/world"
)

const (
	a api.ID = 1024
	b api.ID = 1025
	c api.ID = 1026
	d api.ID = 1027

	// later is how much more an ID has in its slot's next generation.
	later = 1024
)

const (
	west = -524288
	east = 524287
)

func comp(kind byte, f ...int32) api.Comp {
	x := api.Comp{Kind: kind}
	copy(x.F[:], f)
	return x
}

func pos(x, y int32) api.Comp { return comp(api.Pos, x, y) }

func vel(dx, dy int32) api.Comp { return comp(api.Vel, dx, dy) }

func life(left int32) api.Comp { return comp(api.Life, left) }

func body(shape, hp, size int32) api.Comp { return comp(api.Body, shape, hp, size) }

func tag(team, color, flags int32) api.Comp { return comp(api.Tag, team, color, flags) }

func breeds(every, left, shape int32) api.Comp { return comp(api.Spawn, every, left, shape) }

func ent(id api.ID, l ...api.Comp) api.Ent { return api.Ent{ID: id, Comps: l} }

func spawn(l ...api.Comp) api.Order { return api.Order{Do: api.DoSpawn, Comps: l} }

func despawn(id api.ID) api.Order { return api.Order{Do: api.DoDespawn, ID: id} }

func set(id api.ID, l ...api.Comp) api.Order { return api.Order{Do: api.DoSet, ID: id, Comps: l} }

func add(id api.ID, l ...api.Comp) api.Order { return api.Order{Do: api.DoAdd, ID: id, Comps: l} }

func remove(id api.ID, kind byte) api.Order {
	return api.Order{Do: api.DoRemove, ID: id, Kind: kind}
}

func with(o api.Order, l ...api.Comp) api.Order {
	o.Comps = l
	return o
}

func done(id api.ID) api.Result { return api.Result{ID: id} }

func refused(e api.Errno) api.Result { return api.Result{E: e} }

func on(id api.ID, x, y int32) world.Place { return world.Place{ID: id, On: true, X: x, Y: y} }

func off(id api.ID) world.Place { return world.Place{ID: id} }

// dice throws the same numbers in every run.
type dice uint64

func (d *dice) throw(n int) int {
	*d = *d*6364136223846793005 + 1442695040888963407
	return int(uint64(*d) >> 33 % uint64(n))
}

func mustNew(t *testing.T, n, first int, tick uint32) *world.World {
	t.Helper()
	w, e := world.New(n, first, tick)
	if e != api.OK || w == nil {
		t.Fatalf("New(%d, %d, %d) = %v, %d", n, first, tick, w, e)
	}
	return w
}

func mustPush(t *testing.T, w *world.World, l ...api.Order) {
	t.Helper()
	for _, o := range l {
		if e := w.Push(o); e != api.OK {
			t.Fatalf("Push(%v) = %d", o, e)
		}
	}
}

// mustStep lets a tick go by in which these orders are done, and answers what became of them.
func mustStep(t *testing.T, w *world.World, l ...api.Order) []api.Result {
	t.Helper()
	mustPush(t, w, l...)
	tick, waiting := w.Tick(), w.Pending()
	r, e := w.Step()
	if e != api.OK || w.Tick() != tick+1 || len(r) != waiting || w.Pending() != 0 {
		t.Fatalf("Step = %v, %d: tick %d behind %d, of %d orders %d wait", r, e, w.Tick(), tick, waiting, w.Pending())
	}
	return r
}

// mustDo is mustStep where all orders must succeed.
func mustDo(t *testing.T, w *world.World, l ...api.Order) {
	t.Helper()
	for i, r := range mustStep(t, w, l...) {
		if r.E != api.OK {
			t.Fatalf("order %d: %v", i, r)
		}
	}
}

func mustResult(t *testing.T, got []api.Result, want ...api.Result) {
	t.Helper()
	if !slices.Equal(got, want) {
		t.Fatalf("results %v, not %v", got, want)
	}
}

func sameEnt(x, y api.Ent) bool { return x.ID == y.ID && slices.Equal(x.Comps, y.Comps) }

func mustHave(t *testing.T, w *world.World, want ...api.Ent) {
	t.Helper()
	if got := w.List(); !slices.EqualFunc(got, want, sameEnt) {
		t.Fatalf("the world has %v, not %v", got, want)
	}
	for _, x := range want {
		if got, e := w.Ent(x.ID); e != api.OK || !sameEnt(got, x) || !w.Live(x.ID) {
			t.Fatalf("Ent(%d) = %v, %d", x.ID, got, e)
		}
	}
}

func mustPlaces(t *testing.T, w *world.World, want ...world.Place) {
	t.Helper()
	if got := w.Places(); !slices.Equal(got, want) {
		t.Fatalf("places %v, not %v", got, want)
	}
}

func mustChanged(t *testing.T, w *world.World, id api.ID, kind byte, want uint32) {
	t.Helper()
	if got, e := w.Changed(id, kind); got != want || e != api.OK {
		t.Fatalf("Changed(%d, %d) = %d, %d, not %d", id, kind, got, e, want)
	}
}

func mustNotChanged(t *testing.T, w *world.World, id api.ID, kind byte, want api.Errno) {
	t.Helper()
	if got, e := w.Changed(id, kind); got != 0 || e != want {
		t.Fatalf("Changed(%d, %d) = %d, %d, not the error %d", id, kind, got, e, want)
	}
}

func mustSince(t *testing.T, w *world.World, tick uint32, want ...api.ID) {
	t.Helper()
	if got := w.Since(tick); !slices.Equal(got, want) {
		t.Fatalf("Since(%d) = %v, not %v", tick, got, want)
	}
}

// key is a component's entity and kind.
type key struct {
	id   api.ID
	kind byte
}

// state is all that a world tells.
type state struct {
	tick    uint32
	pending int
	ents    []api.Ent
	places  []world.Place
	changed map[key]uint32
}

func stateOf(w *world.World) state {
	x := state{tick: w.Tick(), pending: w.Pending(), ents: w.List(), places: w.Places(), changed: map[key]uint32{}}
	for _, ent := range x.ents {
		for _, c := range ent.Comps {
			x.changed[key{ent.ID, c.Kind}], _ = w.Changed(ent.ID, c.Kind)
		}
	}
	return x
}

func mustStand(t *testing.T, w *world.World, want state) {
	t.Helper()
	if w.Tick() != want.tick || w.Pending() != want.pending {
		t.Fatalf("tick %d, %d wait, not %d and %d", w.Tick(), w.Pending(), want.tick, want.pending)
	}
	mustHave(t, w, want.ents...)
	mustPlaces(t, w, want.places...)
	for k, tick := range want.changed {
		mustChanged(t, w, k.id, k.kind, tick)
	}
}

// The chapter's example.
func TestExample(t *testing.T) {
	w := mustNew(t, 9, 1, 0)
	mustPush(t, w, spawn(pos(0, 0), vel(5, 0)))
	r, e := w.Step()
	if e != api.OK || w.Tick() != 1 {
		t.Fatalf("Step = %d, tick %d", e, w.Tick())
	}
	mustResult(t, r, done(a))
	mustHave(t, w, ent(a, pos(5, 0), vel(5, 0)))
	mustPlaces(t, w, on(a, 5, 0))
	mustStep(t, w)
	mustChanged(t, w, a, api.Pos, 2)
	mustChanged(t, w, a, api.Vel, 1)
}

// New, Push, Step: P15.1.

func TestNew(t *testing.T) {
	for _, n := range []int{1, 2, 1024} {
		for _, first := range []int{1, 7, 4194303} {
			for _, tick := range []uint32{0, 1, 1 << 31, api.MaxTick - 1, api.MaxTick} {
				w := mustNew(t, n, first, tick)
				if w.Tick() != tick || w.Pending() != 0 {
					t.Fatalf("tick %d, %d wait", w.Tick(), w.Pending())
				}
				mustHave(t, w)
				mustPlaces(t, w)
				mustSince(t, w, 0)
				id := api.ID(first * 1024)
				mustNotChanged(t, w, id, api.Pos, api.ErrDead)
				if _, e := w.Ent(id); e != api.ErrDead || w.Live(id) {
					t.Fatalf("Ent(%d) = %d", id, e)
				}
			}
		}
	}
}

func TestNewWrong(t *testing.T) {
	for _, n := range []int{math.MinInt, -1, 0, 1, 1024, 1025, math.MaxInt} {
		for _, first := range []int{math.MinInt, -1, 0, 1, 4194303, 4194304, math.MaxInt} {
			for _, tick := range []uint32{0, api.MaxTick} {
				w, e := world.New(n, first, tick)
				right := n >= 1 && n <= 1024 && first >= 1 && first <= 4194303
				if right && e != api.OK || !right && e != api.ErrArg || right != (w != nil) {
					t.Fatalf("New(%d, %d, %d) = %v, %d", n, first, tick, w, e)
				}
			}
		}
	}
}

// The world has as much room, and begins at that generation, as its store would.
func TestNewRoomAndGenerations(t *testing.T) {
	w := mustNew(t, 2, api.MaxGen-1, 5)
	last := api.ID((api.MaxGen - 1) * 1024)
	mustResult(t, mustStep(t, w, spawn(), spawn(), spawn(), despawn(last), spawn(), despawn(last+later), spawn()),
		done(last), done(last+1), refused(api.ErrFull), done(last), done(last+later), done(last+later), refused(api.ErrFull))
	mustHave(t, w, ent(last+1))
}

func TestPush(t *testing.T) {
	w := mustNew(t, 9, 1, 0)
	for i, o := range []api.Order{spawn(), spawn(pos(1, 2), life(3)), despawn(0), despawn(a), set(77, life(0)), add(a, tag(1, 2, 3)), remove(0, 5)} {
		if e := w.Push(o); e != api.OK || w.Pending() != i+1 {
			t.Fatalf("Push(%v) = %d, %d wait", o, e, w.Pending())
		}
	}
	// Only a Step does them.
	mustHave(t, w)
	if w.Tick() != 0 {
		t.Fatalf("tick %d", w.Tick())
	}
}

var wrongOrders = []struct {
	o api.Order
	e api.Errno
}{
	{api.Order{}, api.ErrArg}, {api.Order{Do: 6}, api.ErrArg}, {api.Order{Do: 255, Comps: []api.Comp{life(4096)}}, api.ErrArg},
	{spawn(comp(6)), api.ErrArg}, {spawn(comp(api.Life, 1, 1)), api.ErrForm}, {spawn(life(4096)), api.ErrRange},
	{spawn(life(1), pos(1, 2)), api.ErrForm}, {spawn(life(4096), comp(6)), api.ErrRange},
	{with(despawn(a), life(1)), api.ErrForm}, {set(a), api.ErrForm}, {set(a, life(1), life(1)), api.ErrForm}, {set(a, life(-1)), api.ErrRange},
	{add(a), api.ErrForm}, {add(a, comp(6)), api.ErrArg}, {remove(a, 6), api.ErrArg}, {with(remove(a, 6), life(1)), api.ErrArg}, {with(remove(a, 5), life(1)), api.ErrForm},
}

// What isn't right is refused, whether there is room or not, and does nothing.
func TestPushWrong(t *testing.T) {
	w := mustNew(t, 9, 1, 0)
	mustStep(t, w, spawn(pos(1, 2), life(9)))
	refuse := func() {
		was := stateOf(w)
		for _, x := range wrongOrders {
			if e := w.Push(x.o); e != x.e {
				t.Fatalf("Push(%v) = %d, not %d", x.o, e, x.e)
			}
			mustStand(t, w, was)
		}
	}
	refuse()
	for range api.MaxOrders {
		mustPush(t, w, spawn())
	}
	refuse()
	was := stateOf(w)
	if e := w.Push(spawn()); e != api.ErrFull {
		t.Fatalf("Push = %d", e)
	}
	mustStand(t, w, was)
}

// A full buffer has room again behind a Step: all that waited were done.
func TestPushFull(t *testing.T) {
	w := mustNew(t, 300, 1, 0)
	for round := range 3 {
		for i := range api.MaxOrders {
			if e := w.Push(spawn()); e != api.OK || w.Pending() != i+1 {
				t.Fatalf("Push = %d, %d wait", e, w.Pending())
			}
		}
		if e := w.Push(despawn(a)); e != api.ErrFull || w.Pending() != 256 {
			t.Fatalf("Push = %d, %d wait", e, w.Pending())
		}
		r := mustStep(t, w)
		for i, x := range r {
			want := done(api.ID(1024 + round*256 + i))
			if round*256+i >= 300 {
				want = refused(api.ErrFull)
			}
			if x != want {
				t.Fatalf("round %d: result %d is %v, not %v", round, i, x, want)
			}
		}
	}
}

// The results stand in the order of the orders, and each order sees what those ahead of it did.
func TestStepResults(t *testing.T) {
	w := mustNew(t, 2, 1, 10)
	mustResult(t, mustStep(t, w))
	mustResult(t, mustStep(t, w,
		set(a, life(1)), spawn(life(5)), set(a, life(8)), add(a, life(9)), add(a, tag(1, 2, 3)), remove(a, api.Pos), remove(a, api.Tag), set(a, tag(1, 1, 1)),
		spawn(), spawn(), despawn(b), despawn(b), spawn(pos(1, 1)), despawn(0), despawn(math.MaxUint32)),
		refused(api.ErrDead), done(a), done(a), refused(api.ErrTwice), done(a), refused(api.ErrNone), done(a), refused(api.ErrNone),
		done(b), refused(api.ErrFull), done(b), refused(api.ErrDead), done(b+later), refused(api.ErrDead), refused(api.ErrDead))
	mustHave(t, w, ent(a, life(7)), ent(b+later, pos(1, 1)))
	if w.Tick() != 12 {
		t.Fatalf("tick %d", w.Tick())
	}
}

// The orders come first: what they spawn, set or add moves, ages and begets in the same tick; what they take away doesn't.
func TestStepOrdersComeFirst(t *testing.T) {
	w := mustNew(t, 20, 1, 0)
	mustDo(t, w, spawn(pos(0, 0)), spawn(pos(0, 0), vel(1, 1)), spawn(life(3)), spawn(pos(9, 9), breeds(5, 2, 0)))
	mustDo(t, w, spawn(pos(50, 0), vel(1, 0), life(8), breeds(4, 0, 0)), add(a, vel(2, 2)), remove(b, api.Vel), set(c, life(0)), despawn(d))
	mustHave(t, w,
		ent(a, pos(2, 2), vel(2, 2)), ent(b, pos(1, 1)), ent(c+later, pos(51, 0), vel(64, 32), life(30), body(0, 100, 1)),
		ent(1028, pos(51, 0), vel(1, 0), life(7), breeds(4, 3, 0)))
}

// Move goes ahead of Age and of Breed: a child stands where its parent has come to, and is neither moved nor aged in the tick in which it came.
func TestStepMovesThenAgesThenBreeds(t *testing.T) {
	w := mustNew(t, 9, 1, 0)
	mustDo(t, w, spawn(pos(0, 0), vel(10, 20), breeds(2, 0, 0)))
	mustHave(t, w, ent(a, pos(10, 20), vel(10, 20), breeds(2, 1, 0)), ent(b, pos(10, 20), vel(64, 32), life(30), body(0, 100, 1)))
	mustStep(t, w)
	mustHave(t, w, ent(a, pos(20, 40), vel(10, 20), breeds(2, 0, 0)), ent(b, pos(74, 52), vel(64, 32), life(29), body(0, 100, 1)))
}

// Age goes ahead of Breed: who goes doesn't beget any more, and the room that it leaves is there for others' children.
func TestStepAgesAheadOfBreed(t *testing.T) {
	w := mustNew(t, 2, 1, 0)
	mustDo(t, w, spawn(pos(1, 1), life(1), breeds(1, 1, 0)), spawn(pos(2, 2), breeds(9, 0, 1)))
	mustHave(t, w, ent(a, pos(1, 1), life(0), breeds(1, 0, 0)), ent(b, pos(2, 2), breeds(9, 0, 1)))
	mustStep(t, w)
	mustHave(t, w, ent(a+later, pos(2, 2), vel(-128, 64), life(40), body(1, 100, 2)), ent(b, pos(2, 2), breeds(9, 8, 1)))
}

func TestStepLastTick(t *testing.T) {
	w := mustNew(t, 9, 1, api.MaxTick-2)
	mustDo(t, w, spawn(pos(0, 0), vel(1, 1), life(9)), spawn(pos(0, 0), life(1)))
	mustStep(t, w)
	if w.Tick() != api.MaxTick {
		t.Fatalf("tick %d", w.Tick())
	}
	mustPlaces(t, w, on(a, 2, 2), off(b))
	mustPush(t, w, despawn(a), spawn())
	was := stateOf(w)
	for range 3 {
		if r, e := w.Step(); e != api.ErrEnd || len(r) != 0 {
			t.Fatalf("Step = %v, %d", r, e)
		}
		mustStand(t, w, was)
	}
	// Orders still wait, with those that come behind them.
	mustPush(t, w, spawn())
	if w.Pending() != 3 {
		t.Fatalf("%d wait", w.Pending())
	}
	mustChanged(t, w, a, api.Pos, api.MaxTick)
	mustChanged(t, w, a, api.Vel, api.MaxTick-1)
	mustSince(t, w, api.MaxTick-1, a)
	mustSince(t, w, api.MaxTick)
}

func TestStepAtTheLastTickFromTheBeginning(t *testing.T) {
	w := mustNew(t, 1, 1, api.MaxTick)
	mustPush(t, w, spawn())
	if r, e := w.Step(); e != api.ErrEnd || len(r) != 0 || w.Tick() != api.MaxTick || w.Pending() != 1 || w.Live(a) {
		t.Fatalf("Step = %v, %d, tick %d, %d wait", r, e, w.Tick(), w.Pending())
	}
}

// Tick, Pending, Ent, List, Live, Places: P15.2.

func TestEnt(t *testing.T) {
	w := mustNew(t, 3, 1, 0)
	mustDo(t, w, spawn(pos(1, 2), life(9)), spawn())
	mustDo(t, w, despawn(b), spawn(tag(1, 2, 3)))
	mustHave(t, w, ent(a, pos(1, 2), life(7)), ent(b+later, tag(1, 2, 3)))
	for _, id := range []api.ID{0, 1, 1023, b, c, b + 2*later, math.MaxUint32} {
		if got, e := w.Ent(id); e != api.ErrDead || got.ID != 0 || len(got.Comps) != 0 || w.Live(id) {
			t.Fatalf("Ent(%d) = %v, %d", id, got, e)
		}
	}
}

// By rising slots, not by rising numbers.
func TestListBySlots(t *testing.T) {
	w := mustNew(t, 5, 1, 0)
	mustDo(t, w, spawn(life(9)), spawn(life(9)), spawn(life(9)), spawn())
	mustDo(t, w, despawn(a), despawn(c), spawn(tag(1, 1, 1)), spawn())
	mustHave(t, w, ent(a+later), ent(b, life(7)), ent(c+later, tag(1, 1, 1)), ent(d))
}

func TestPlaces(t *testing.T) {
	w := mustNew(t, 20, 1, 0)
	mustDo(t, w, spawn(pos(1, 2)), spawn(pos(3, 4), vel(1, -1)), spawn(life(9)), spawn())
	mustPlaces(t, w, on(a, 1, 2), on(b, 4, 3))
	// Only who isn't where it was is told.
	mustStep(t, w)
	mustPlaces(t, w, on(b, 5, 2))
	// Set to another place, to another one along one axis alone, to what it was.
	mustDo(t, w, set(a, pos(1, 3)), remove(b, api.Vel))
	mustPlaces(t, w, on(a, 1, 3))
	mustDo(t, w, set(a, pos(0, 3)), set(b, pos(5, 2)))
	mustPlaces(t, w, on(a, 0, 3))
	// A place by an order, a place lost by one.
	mustDo(t, w, add(c, pos(0, 0)), remove(a, api.Pos))
	mustPlaces(t, w, off(a), on(c, 0, 0))
	mustStep(t, w)
	mustPlaces(t, w)
	// Who goes without a place isn't told, who goes with one is.
	mustDo(t, w, despawn(a), despawn(b), despawn(d))
	mustPlaces(t, w, off(b))
	mustStep(t, w)
	mustPlaces(t, w)
}

// Only what is ahead of the Step and behind it counts.
func TestPlacesWithinOneStep(t *testing.T) {
	for _, x := range []struct {
		name string
		l    []api.Order
		want []world.Place
	}{
		{"there and back", []api.Order{set(a, pos(7, 7)), set(a, pos(1, 1))}, nil},
		{"lost and got again", []api.Order{remove(a, api.Pos), add(a, pos(1, 1))}, nil},
		{"lost and got elsewhere", []api.Order{remove(a, api.Pos), add(a, pos(1, 5))}, []world.Place{on(a, 1, 5)}},
		{"got and lost", []api.Order{add(c, pos(1, 1)), remove(c, api.Pos)}, nil},
		{"came and went", []api.Order{spawn(pos(9, 9)), despawn(d)}, nil},
		{"came, moved and aged", []api.Order{spawn(pos(9, 9), vel(5, 5), life(0))}, nil},
		{"moved and aged", []api.Order{add(b, vel(1, 0)), add(b, life(0))}, []world.Place{off(b)}},
		{"set and moved", []api.Order{add(b, vel(1, 0)), set(b, pos(4, 4))}, []world.Place{on(b, 5, 4)}},
		{"set and moved back", []api.Order{add(b, vel(1, 0)), set(b, pos(1, 2))}, nil},
		{"its slot taken again", []api.Order{despawn(a), spawn(pos(1, 1))}, []world.Place{off(a), on(a+later, 1, 1)}},
		{"its slot taken again twice", []api.Order{despawn(a), spawn(pos(1, 1)), despawn(a + later), spawn(pos(1, 1))}, []world.Place{off(a), on(a+2*later, 1, 1)}},
		{"its slot taken without a place", []api.Order{despawn(a), spawn()}, []world.Place{off(a)}},
		{"lost and gone", []api.Order{remove(a, api.Pos), despawn(a)}, []world.Place{off(a)}},
		{"aged, and its slot bred into", []api.Order{add(a, life(0)), add(b, breeds(1, 0, 0))}, []world.Place{off(a), on(a+later, 2, 2)}},
	} {
		w := mustNew(t, 20, 1, 0)
		mustDo(t, w, spawn(pos(1, 1)), spawn(pos(2, 2)), spawn(tag(1, 1, 1)))
		mustDo(t, w, x.l...)
		if got := w.Places(); !slices.Equal(got, x.want) {
			t.Fatalf("%s: places %v, not %v", x.name, got, x.want)
		}
	}
}

// Who is set so that it moves to where it was hasn't another place, though Move tells it.
func TestPlacesMovedBackToWhereItWas(t *testing.T) {
	w := mustNew(t, 20, 1, 0)
	mustDo(t, w, spawn(pos(1, 1), vel(1, 0)))
	mustPlaces(t, w, on(a, 2, 1))
	mustDo(t, w, set(a, pos(1, 1)))
	mustPlaces(t, w)
	mustChanged(t, w, a, api.Pos, 1)
}

// Who stands at the world's end and only turns isn't told.
func TestPlacesAtTheEnd(t *testing.T) {
	w := mustNew(t, 20, 1, 0)
	mustDo(t, w, spawn(pos(east-1, west), vel(5, 0)))
	mustPlaces(t, w, on(a, east, west))
	mustDo(t, w, set(a, vel(5, 0)))
	mustPlaces(t, w)
	mustHave(t, w, ent(a, pos(east, west), vel(-5, 0)))
	mustStep(t, w)
	mustPlaces(t, w, on(a, east-5, west))
}

// Children's places are told, and those of who has aged.
func TestPlacesByThemselves(t *testing.T) {
	w := mustNew(t, 20, 1, 0)
	mustDo(t, w, spawn(pos(1, 1), breeds(2, 0, 0)), spawn(pos(5, 5), life(1)))
	mustPlaces(t, w, on(a, 1, 1), on(b, 5, 5), on(c, 1, 1))
	mustStep(t, w)
	mustPlaces(t, w, off(b), on(c, 65, 33))
	mustStep(t, w)
	mustPlaces(t, w, on(c, 129, 65), on(b+later, 1, 1))
}

// By rising IDs, not by rising slots.
func TestPlacesByIDs(t *testing.T) {
	w := mustNew(t, 20, 1, 0)
	for range 12 {
		mustPush(t, w, spawn(pos(0, 0)))
	}
	mustStep(t, w)
	mustDo(t, w, despawn(a), despawn(1029), spawn(pos(1, 1)), spawn(pos(2, 2)), set(d, pos(3, 3)), set(b, pos(4, 4)), set(1035, pos(5, 5)), despawn(1034))
	mustPlaces(t, w, off(a), on(b, 4, 4), on(d, 3, 3), off(1029), off(1034), on(1035, 5, 5), on(a+later, 2, 2), on(1029+later, 1, 1))
}

// Changed and Since: P15.3.

func TestChanged(t *testing.T) {
	w := mustNew(t, 9, 1, 40)
	mustDo(t, w, spawn(pos(1, 1), life(99), tag(1, 2, 3)))
	mustStep(t, w)
	mustChanged(t, w, a, api.Pos, 41)
	mustChanged(t, w, a, api.Life, 42)
	mustChanged(t, w, a, api.Tag, 41)
	// Set to what it was: nothing has changed.
	mustDo(t, w, set(a, tag(1, 2, 3)), set(a, pos(2, 2)), set(a, pos(1, 1)))
	mustChanged(t, w, a, api.Pos, 41)
	mustChanged(t, w, a, api.Tag, 41)
	// Each field counts.
	for i := range int32(3) {
		x := tag(1, 2, 3)
		x.F[i]++
		mustDo(t, w, set(a, x))
		mustChanged(t, w, a, api.Tag, w.Tick())
	}
	// Taken away and given again within one Step: it is what it was.
	was, _ := w.Changed(a, api.Tag)
	mustDo(t, w, remove(a, api.Tag), add(a, tag(1, 2, 4)))
	mustChanged(t, w, a, api.Tag, was)
	// Taken away by one Step and given again by another: it came in the latter.
	mustDo(t, w, remove(a, api.Tag))
	mustNotChanged(t, w, a, api.Tag, api.ErrNone)
	mustDo(t, w, add(a, tag(1, 2, 4)))
	mustChanged(t, w, a, api.Tag, w.Tick())
	mustStep(t, w)
	mustChanged(t, w, a, api.Tag, w.Tick()-1)
	mustChanged(t, w, a, api.Pos, 41)
}

// Back to what it was once is a change all the same: what counts is what was ahead of the Step.
func TestChangedBack(t *testing.T) {
	w := mustNew(t, 9, 1, 0)
	mustDo(t, w, spawn(pos(1, 1)))
	mustDo(t, w, set(a, pos(2, 2)))
	mustDo(t, w, set(a, pos(1, 1)))
	mustChanged(t, w, a, api.Pos, 3)
	mustStep(t, w)
	mustChanged(t, w, a, api.Pos, 3)
}

func TestChangedByThemselves(t *testing.T) {
	w := mustNew(t, 9, 1, 0)
	mustDo(t, w, spawn(pos(east-3, 0), vel(2, 0), life(9), breeds(2, 1, 0)))
	for kind := range byte(api.Kinds) {
		if kind == api.Body || kind == api.Tag {
			mustNotChanged(t, w, a, kind, api.ErrNone)
		} else {
			mustChanged(t, w, a, kind, 1)
		}
	}
	mustStep(t, w)
	mustHave(t, w, ent(a, pos(east, 0), vel(-2, 0), life(7), breeds(2, 1, 0)), ent(b, pos(east, 0), vel(64, 32), life(30), body(0, 100, 1)))
	mustChanged(t, w, a, api.Pos, 2)
	mustChanged(t, w, a, api.Vel, 2)
	mustChanged(t, w, a, api.Life, 2)
	mustChanged(t, w, a, api.Spawn, 2)
	for _, kind := range []byte{api.Pos, api.Vel, api.Life, api.Body} {
		mustChanged(t, w, b, kind, 2)
	}
	mustDo(t, w, set(b, vel(0, 0)))
	mustChanged(t, w, a, api.Vel, 2)
	mustChanged(t, w, b, api.Pos, 2)
	mustChanged(t, w, b, api.Vel, 3)
	mustChanged(t, w, b, api.Life, 3)
	mustChanged(t, w, b, api.Body, 2)
}

// Another entity in the slot has nothing of the one that was there.
func TestChangedSlotTakenAgain(t *testing.T) {
	w := mustNew(t, 1, 1, 0)
	mustDo(t, w, spawn(pos(1, 1), tag(1, 1, 1)))
	mustStep(t, w)
	mustDo(t, w, despawn(a), spawn(pos(1, 1)))
	mustNotChanged(t, w, a, api.Pos, api.ErrDead)
	mustNotChanged(t, w, a, api.Tag, api.ErrDead)
	mustChanged(t, w, a+later, api.Pos, 3)
	mustNotChanged(t, w, a+later, api.Tag, api.ErrNone)
}

func TestChangedWrong(t *testing.T) {
	w := mustNew(t, 3, 2, 0)
	mustDo(t, w, spawn(pos(1, 1)), spawn())
	mustDo(t, w, despawn(b+later), spawn(pos(1, 1)))
	live := a + later
	for kind := range 256 {
		for _, id := range []api.ID{0, 1, a, b, b + later, live + later, c + later, c + 2*later, math.MaxUint32} {
			mustNotChanged(t, w, id, byte(kind), api.ErrDead)
		}
		if kind != api.Pos {
			mustNotChanged(t, w, live, byte(kind), api.ErrNone)
		}
	}
	mustChanged(t, w, live, api.Pos, 1)
}

// An order that waits has changed nothing yet.
func TestNothingAheadOfTheStep(t *testing.T) {
	w := mustNew(t, 9, 1, 0)
	mustDo(t, w, spawn(pos(1, 1)), spawn(pos(2, 2)))
	was := stateOf(w)
	mustPush(t, w, set(a, pos(3, 3)), despawn(b), spawn(pos(4, 4)))
	was.pending = 3
	mustStand(t, w, was)
}

func TestSince(t *testing.T) {
	w := mustNew(t, 9, 1, 0)
	mustSince(t, w, 0)
	mustDo(t, w, spawn(pos(1, 1)), spawn(life(2)), spawn(), spawn(tag(1, 1, 1), breeds(9, 9, 9)))
	mustSince(t, w, 0, a, b, d)
	mustSince(t, w, 1)
	mustStep(t, w)
	mustSince(t, w, 0, a, b, d)
	mustSince(t, w, 1, b)
	mustSince(t, w, 2)
	mustDo(t, w, set(d, breeds(9, 8, 9)), add(c, life(9)), set(a, pos(1, 1)))
	mustSince(t, w, 0, a, c, d)
	mustSince(t, w, 1, c, d)
	mustSince(t, w, 2, c, d)
	mustSince(t, w, 3)
	mustSince(t, w, math.MaxUint32)
	// What is lost is no component that there is: the tag came by the first Step.
	mustDo(t, w, remove(d, api.Spawn), remove(c, api.Life))
	mustSince(t, w, 0, a, d)
	mustSince(t, w, 1)
}

// By rising slots, not by rising numbers.
func TestSinceBySlots(t *testing.T) {
	w := mustNew(t, 9, 1, 0)
	mustDo(t, w, spawn(pos(0, 0)), spawn(pos(0, 0)), spawn(pos(0, 0)))
	mustDo(t, w, despawn(a), spawn(pos(0, 0)), set(c, pos(1, 1)))
	mustSince(t, w, 1, a+later, c)
	mustSince(t, w, 0, a+later, b, c)
}

func TestNil(t *testing.T) {
	var w *world.World
	for _, o := range []api.Order{{}, spawn(), spawn(life(4096)), despawn(a), remove(a, 99)} {
		if e := w.Push(o); e != api.ErrNone {
			t.Fatalf("Push(%v) = %d", o, e)
		}
	}
	if r, e := w.Step(); e != api.ErrNone || len(r) != 0 {
		t.Fatalf("Step = %v, %d", r, e)
	}
	if w.Tick() != 0 || w.Pending() != 0 || len(w.List()) != 0 || w.Live(a) || len(w.Places()) != 0 || len(w.Since(0)) != 0 {
		t.Fatal("a nil world has something")
	}
	if x, e := w.Ent(a); e != api.ErrNone || x.ID != 0 || len(x.Comps) != 0 {
		t.Fatalf("Ent = %v, %d", x, e)
	}
	mustNotChanged(t, w, a, api.Pos, api.ErrNone)
	mustNotChanged(t, w, 0, 99, api.ErrNone)
}

// What is pushed is neither changed nor kept, its spare room neither.
func TestPushedIsTheCallers(t *testing.T) {
	w := mustNew(t, 9, 1, 0)
	room := []api.Comp{pos(1, 1), tag(1, 2, 3), life(77), life(78)}
	o := api.Order{Do: api.DoSpawn, Comps: room[:2]}
	mustPush(t, w, o)
	one := []api.Comp{life(5)}
	mustPush(t, w, api.Order{Do: api.DoAdd, ID: a, Comps: one})
	for i := range room {
		room[i] = comp(9, 9, 9, 9)
	}
	one[0] = comp(9, 9, 9, 9)
	mustDo(t, w)
	mustHave(t, w, ent(a, pos(1, 1), life(4), tag(1, 2, 3)))
	if !slices.Equal(room, slices.Repeat([]api.Comp{comp(9, 9, 9, 9)}, 4)) || one[0] != comp(9, 9, 9, 9) {
		t.Fatalf("what was pushed is %v and %v", room, one)
	}
}

// answers is all lists that a world hands out.
type answers struct {
	results []api.Result
	ent     api.Ent
	list    []api.Ent
	places  []world.Place
	since   []api.ID
}

func ask(w *world.World, r []api.Result) answers {
	x, _ := w.Ent(a)
	return answers{r, x, w.List(), w.Places(), w.Since(0)}
}

func (x answers) copied() answers {
	list := slices.Clone(x.list)
	for i := range list {
		list[i].Comps = slices.Clone(list[i].Comps)
	}
	return answers{slices.Clone(x.results), api.Ent{ID: x.ent.ID, Comps: slices.Clone(x.ent.Comps)}, list, slices.Clone(x.places), slices.Clone(x.since)}
}

func (x answers) same(y answers) bool {
	return slices.Equal(x.results, y.results) && sameEnt(x.ent, y.ent) && slices.EqualFunc(x.list, y.list, sameEnt) && slices.Equal(x.places, y.places) && slices.Equal(x.since, y.since)
}

func spoil[T any](l []T, by T) {
	l = l[:cap(l)]
	for i := range l {
		l[i] = by
	}
}

func (x answers) spoil() {
	for _, y := range x.list {
		spoil(y.Comps, comp(9, 9, 9, 9))
	}
	spoil(x.list, api.Ent{ID: 9})
	spoil(x.ent.Comps, comp(9, 9, 9, 9))
	spoil(x.results, refused(9))
	spoil(x.places, on(9, 9, 9))
	spoil(x.since, 9)
}

func TestHandedOutIsTheCallers(t *testing.T) {
	w := mustNew(t, 30, 1, 0)
	var told, kept []answers
	for i := range int32(6) {
		r := mustStep(t, w, spawn(pos(i, i), vel(1, 1), life(9), breeds(2, 0, 0)), despawn(b+later), set(a, tag(1, 1, 1)), set(a, vel(i, i)))
		x := ask(w, r)
		told, kept = append(told, x), append(kept, x.copied())
	}
	for i := range told {
		if !told[i].same(kept[i]) {
			t.Fatalf("what was told is %v, and was %v", told[i], kept[i])
		}
	}
	was, again := stateOf(w), ask(w, told[5].results).copied()
	for i := range told {
		told[i].spoil()
	}
	mustStand(t, w, was)
	if now := ask(w, again.results); !now.same(again) {
		t.Fatalf("the world tells %v, and told %v", now, again)
	}
	mustStep(t, w)
}

// No two lists of an answer share memory.
func TestListsAreApart(t *testing.T) {
	w := mustNew(t, 9, 1, 0)
	mustDo(t, w, spawn(pos(1, 1), tag(1, 1, 1)), spawn(pos(2, 2)), spawn(life(3)))
	l := w.List()
	spoil(l[0].Comps, comp(9, 9, 9, 9))
	if !sameEnt(l[1], ent(b, pos(2, 2))) || !sameEnt(l[2], ent(c, life(2))) {
		t.Fatalf("the others are %v", l[1:])
	}
}

// Two worlds know nothing of each other.
func TestTwoWorlds(t *testing.T) {
	v, w := mustNew(t, 9, 1, 0), mustNew(t, 9, 1, 0)
	mustDo(t, v, spawn(pos(1, 1)))
	mustHave(t, w)
	mustPlaces(t, w)
	mustSince(t, w, 0)
	if w.Tick() != 0 {
		t.Fatalf("tick %d", w.Tick())
	}
}

// model is a world once more, by its whole past: what all entities had behind each tick.
type model struct {
	s     *store.Store
	first uint32
	past  []map[key]api.Comp
}

func (m *model) look() {
	now := map[key]api.Comp{}
	for _, id := range m.s.List() {
		for kind := range byte(api.Kinds) {
			if c, e := m.s.Get(id, kind); e == api.OK {
				now[key{id, kind}] = c
			}
		}
	}
	m.past = append(m.past, now)
}

func (m *model) step(l []api.Order) []api.Result {
	var r []api.Result
	for _, o := range l {
		r = append(r, orders.Do(m.s, o))
	}
	systems.Move(m.s)
	systems.Age(m.s)
	systems.Breed(m.s)
	m.look()
	return r
}

// differ tells whether a component was not the same ahead of the step i and behind it.
func (m *model) differ(k key, i int) bool {
	ahead, ok1 := m.past[i-1][k]
	behind, ok2 := m.past[i][k]
	return ok1 != ok2 || ahead != behind
}

func (m *model) changed(k key) (uint32, api.Errno) {
	if !m.s.Live(k.id) {
		return 0, api.ErrDead
	}
	if _, ok := m.past[len(m.past)-1][k]; !ok {
		return 0, api.ErrNone
	}
	for i := len(m.past) - 1; ; i-- {
		if m.differ(k, i) {
			return m.first + uint32(i), api.OK
		}
	}
}

func (m *model) places() []world.Place {
	now := len(m.past) - 1
	var l []world.Place
	for _, past := range m.past[now-1:] {
		for k := range past {
			if k.kind != api.Pos || !m.differ(k, now) {
				continue
			}
			c, ok := m.past[now][k]
			l = append(l, world.Place{ID: k.id, On: ok, X: c.F[0], Y: c.F[1]})
		}
	}
	slices.SortFunc(l, func(x, y world.Place) int { return cmp.Compare(x.ID, y.ID) })
	return slices.Compact(l)
}

func (m *model) since(tick uint32) []api.ID {
	var l []api.ID
	for _, id := range m.s.List() {
		for kind := range byte(api.Kinds) {
			if at, e := m.changed(key{id, kind}); e == api.OK && at > tick {
				l = append(l, id)
				break
			}
		}
	}
	return l
}

// throwComp is a component of a kind; its fields have few values, so that it often is what it was.
func throwComp(d *dice, kind byte) api.Comp {
	n := func(n int) int32 { return int32(d.throw(n)) }
	return []api.Comp{
		pos(n(2)*(east-1), n(2)*(west+1)), vel(n(3)-1, n(3)-1), life(n(4)), body(n(2), n(2), 1), tag(n(2), n(2), 0), breeds(1+n(3), n(3), n(16)),
	}[kind]
}

func throwOrder(d *dice, l []api.ID) api.Order {
	id := api.ID(d.throw(4000))
	if len(l) > 0 && d.throw(8) > 0 {
		id = l[d.throw(len(l))]
	}
	kind := byte(d.throw(api.Kinds))
	switch d.throw(6) {
	case 0:
		mask := d.throw(1 << api.Kinds)
		var l []api.Comp
		for kind := range byte(api.Kinds) {
			if mask>>kind&1 == 1 {
				l = append(l, throwComp(d, kind))
			}
		}
		return spawn(l...)
	case 1:
		return despawn(id)
	case 2, 3:
		return set(id, throwComp(d, kind))
	case 4:
		return add(id, throwComp(d, kind))
	}
	return remove(id, kind)
}

// Long scripts against the plain model.
func TestAgainstModel(t *testing.T) {
	for seed := range 20 {
		d := dice(seed)
		n, first := 1+d.throw(10), []int{1, 3, api.MaxGen - 5}[d.throw(3)]
		tick := []uint32{0, 1000, api.MaxTick - 60}[d.throw(3)]
		w := mustNew(t, n, first, tick)
		s, _ := store.New(n, first)
		m := &model{s: s, first: tick}
		m.look()
		var ever []api.ID
		for range 60 {
			var l []api.Order
			for range d.throw(5) {
				l = append(l, throwOrder(&d, s.List()))
			}
			mustResult(t, mustStep(t, w, l...), m.step(l)...)
			ever = append(ever, s.List()...)
			slices.Sort(ever)
			ever = slices.Compact(ever)
			mustMatch(t, &d, w, m, ever)
		}
	}
}

// mustMatch holds all that the world tells against the model, of entities that are and that were.
func mustMatch(t *testing.T, d *dice, w *world.World, m *model, ever []api.ID) {
	t.Helper()
	var want []api.Ent
	for _, id := range m.s.List() {
		x, _ := m.s.Ent(id)
		want = append(want, x)
	}
	mustHave(t, w, want...)
	mustPlaces(t, w, m.places()...)
	for _, id := range ever {
		if w.Live(id) != m.s.Live(id) {
			t.Fatalf("Live(%d) = %v", id, w.Live(id))
		}
		for kind := range byte(api.Kinds + 1) {
			tick, e := m.changed(key{id, kind})
			if got, err := w.Changed(id, kind); got != tick || err != e {
				t.Fatalf("Changed(%d, %d) = %d, %d, not %d, %d", id, kind, got, err, tick, e)
			}
		}
	}
	for _, back := range []uint32{0, 1, 2, uint32(d.throw(60))} {
		tick := m.first + uint32(len(m.past)-1)
		tick -= min(tick, back)
		mustSince(t, w, tick, m.since(tick)...)
	}
}

// The whole of it: what a world becomes hangs on its orders alone.
func TestSameTwice(t *testing.T) {
	run := func() state {
		d := dice(99)
		w := mustNew(t, 1024, 1, 0)
		for range 30 {
			var l []api.ID
			for _, x := range w.List() {
				l = append(l, x.ID)
			}
			for range 40 {
				mustPush(t, w, throwOrder(&d, l))
			}
			mustStep(t, w)
		}
		return stateOf(w)
	}
	one, two := run(), run()
	if !slices.EqualFunc(one.ents, two.ents, sameEnt) || !slices.Equal(one.places, two.places) || len(one.changed) != len(two.changed) {
		t.Fatal("two worlds of the same orders differ")
	}
	for k, tick := range one.changed {
		if two.changed[k] != tick {
			t.Fatalf("Changed(%v) = %d and %d", k, tick, two.changed[k])
		}
	}
}
