package snap_test

import (
	"cmp"
	"slices"
	"testing"

	"pinnace/api"
	"pinnace/cells"
	"pinnace/schema"
	"pinnace/snap"
	"pinnace/view"
	"pinnace/world"
)

const (
	west = -524288
	east = 524287

	// The IDs of the least and the greatest generation, each of the first and the last slot.
	leastFirst    = api.ID(1024)
	leastLast     = api.ID(2047)
	greatestFirst = api.ID(1<<32 - 1024)
	greatestLast  = api.ID(1<<32 - 1)
)

func comp(kind byte, f ...int32) api.Comp {
	c := api.Comp{Kind: kind}
	copy(c.F[:], f)
	return c
}

func pos(x, y int32) api.Comp { return comp(api.Pos, x, y) }

func vel(dx, dy int32) api.Comp { return comp(api.Vel, dx, dy) }

func life(left int32) api.Comp { return comp(api.Life, left) }

func body(shape, hp, size int32) api.Comp { return comp(api.Body, shape, hp, size) }

func tag(team, color, flags int32) api.Comp { return comp(api.Tag, team, color, flags) }

func breeds(every, left, shape int32) api.Comp { return comp(api.Spawn, every, left, shape) }

func ent(id api.ID, l ...api.Comp) api.Ent { return api.Ent{ID: id, Comps: l} }

func list(l ...api.Ent) []api.Ent { return l }

// every is a component of each kind that is told.
func every() []api.Comp {
	return []api.Comp{pos(1, -2), vel(3, -4), life(5), body(6, 7, 8), tag(1, 2, 3)}
}

// on is a region that is On.
func on(cx, cy, r int) api.Region { return api.Region{On: true, CX: cx, CY: cy, R: r} }

// dice throws the same numbers in every run.
type dice uint64

func (d *dice) throw(n int) int {
	*d = *d*6364136223846793005 + 1442695040888963407
	return int(uint64(*d) >> 33 % uint64(n))
}

// spawned is a world in which these are spawned and one step is done.
func spawned(t *testing.T, n, first int, l ...[]api.Comp) *world.World {
	t.Helper()
	w, e := world.New(n, first, 0)
	if e != api.OK {
		t.Fatalf("New(%d, %d) = %d", n, first, e)
	}
	for _, comps := range l {
		mustPush(t, w, api.Order{Do: api.DoSpawn, Comps: comps})
	}
	mustStep(t, w)
	return w
}

func mustPush(t *testing.T, w *world.World, o api.Order) {
	t.Helper()
	if e := w.Push(o); e != api.OK {
		t.Fatalf("Push(%v) = %d", o, e)
	}
}

func mustStep(t *testing.T, w *world.World) {
	t.Helper()
	if _, e := w.Step(); e != api.OK {
		t.Fatalf("Step() = %d", e)
	}
}

func mustForm(t *testing.T, l []api.Ent, want api.Errno) {
	t.Helper()
	if e := snap.Form(l); e != want {
		t.Fatalf("Form(%v) = %d, not %d", l, e, want)
	}
}

// equal is whether they are the same, told without snap.
func equal(a, b []api.Ent) bool {
	return slices.EqualFunc(a, b, func(x, y api.Ent) bool { return x.ID == y.ID && slices.Equal(x.Comps, y.Comps) })
}

func mustTake(t *testing.T, w *world.World, ids []api.ID, want ...api.Ent) {
	t.Helper()
	got, e := snap.Take(w, ids)
	if e != api.OK || !equal(got, want) {
		t.Fatalf("Take(%v) = %v, %d, not %v", ids, got, e, want)
	}
}

func mustNotTake(t *testing.T, w *world.World, want api.Errno, ids ...api.ID) {
	t.Helper()
	if got, e := snap.Take(w, ids); e != want || len(got) != 0 {
		t.Fatalf("Take(%v) = %v, %d, not %d", ids, got, e, want)
	}
}

func mustSee(t *testing.T, w *world.World, r api.Region, want ...api.Ent) {
	t.Helper()
	if got := snap.Direct(w, r); !equal(got, want) {
		t.Fatalf("Direct(%v) = %v, not %v", r, got, want)
	}
}

func mustFind(t *testing.T, l []api.Ent, id api.ID, want int) {
	t.Helper()
	if got := snap.Find(l, id); got != want {
		t.Fatalf("Find(%v, %d) = %d, not %d", l, id, got, want)
	}
}

func mustSame(t *testing.T, a, b []api.Ent, want bool) {
	t.Helper()
	if snap.Same(a, b) != want || snap.Same(b, a) != want {
		t.Fatalf("Same(%v, %v) = %v, %v", a, b, snap.Same(a, b), snap.Same(b, a))
	}
}

func TestExamples(t *testing.T) {
	w := spawned(t, 9, 1, []api.Comp{pos(1, 2), tag(1, 2, 3), breeds(9, 9, 0)}, []api.Comp{life(7)})
	mustTake(t, w, []api.ID{1024}, ent(1024, pos(1, 2), tag(1, 2, 3)))
	mustNotTake(t, w, api.ErrForm, 1025, 1024)
}

// Form, P18.1.

func TestForm(t *testing.T) {
	for _, l := range [][]api.Ent{
		nil,
		{},
		list(ent(leastFirst)),
		list(ent(leastLast)),
		list(ent(greatestFirst)),
		list(ent(greatestLast)),
		list(ent(leastFirst, every()...)),
		list(api.Ent{ID: leastFirst, Comps: []api.Comp{}}),
		list(ent(1024), ent(1025)),
		list(ent(1024), ent(2048)),
		list(ent(1024, every()...), ent(1025), ent(2048, tag(7, 255, 31)), ent(3073, pos(west, east), body(15, 1000, 100))),
		list(ent(leastFirst), ent(leastLast, life(0)), ent(greatestFirst, life(4095)), ent(greatestLast, every()...)),
		list(ent(1<<31-1), ent(1<<31), ent(1<<31+1)),
	} {
		mustForm(t, l, api.OK)
	}
}

func TestFormOfEachKind(t *testing.T) {
	for _, c := range every() {
		mustForm(t, list(ent(1024, c)), api.OK)
	}
	mustForm(t, list(ent(1024, breeds(1, 0, 0))), api.ErrForm)
}

func TestFormGenerations(t *testing.T) {
	for _, id := range []api.ID{0, 1, 2, 512, 1022, 1023} {
		mustForm(t, list(ent(id)), api.ErrForm)
		mustForm(t, list(ent(id, life(-1))), api.ErrForm)
		mustForm(t, list(ent(id), ent(1024)), api.ErrForm)
	}
	for gen := api.ID(1); gen <= api.MaxGen; gen += 31 {
		mustForm(t, list(ent(gen*1024), ent(gen*1024+1023)), api.OK)
	}
}

func TestFormOrder(t *testing.T) {
	for _, l := range [][]api.Ent{
		list(ent(1024), ent(1024)),
		list(ent(1025), ent(1024)),
		list(ent(2048), ent(1025)),
		list(ent(1024), ent(1026), ent(1025)),
		list(ent(1024), ent(1025), ent(1024)),
		list(ent(1024), ent(1025), ent(1025)),
		list(ent(greatestLast), ent(greatestLast)),
		list(ent(greatestLast), ent(leastFirst)),
		list(ent(1<<31), ent(1<<31-1)),
		list(ent(1024), ent(0)),
	} {
		mustForm(t, l, api.ErrForm)
	}
}

func TestFormComponents(t *testing.T) {
	for _, x := range []struct {
		l    []api.Comp
		want api.Errno
	}{
		{[]api.Comp{comp(6)}, api.ErrArg},
		{[]api.Comp{comp(255, 1, 2, 3)}, api.ErrArg},
		{[]api.Comp{comp(api.Life, 3, 1)}, api.ErrForm},
		{[]api.Comp{comp(api.Pos, 0, 0, 1)}, api.ErrForm},
		{[]api.Comp{life(-1)}, api.ErrRange},
		{[]api.Comp{life(4096)}, api.ErrRange},
		{[]api.Comp{body(0, 0, 0)}, api.ErrRange},
		{[]api.Comp{pos(east+1, 0)}, api.ErrRange},
		{[]api.Comp{pos(0, 0), pos(0, 0)}, api.ErrForm},
		{[]api.Comp{tag(0, 0, 0), pos(0, 0)}, api.ErrForm},
		{[]api.Comp{pos(0, 0), comp(9)}, api.ErrArg},
		{[]api.Comp{pos(0, 0), vel(0, 1<<15)}, api.ErrRange},
		{[]api.Comp{pos(0, 0), breeds(1, 0, 0)}, api.ErrForm},
	} {
		if x.want != api.ErrForm && schema.List(x.l) != x.want {
			t.Fatalf("List(%v) = %d", x.l, schema.List(x.l))
		}
		mustForm(t, list(ent(1024, x.l...)), x.want)
		mustForm(t, list(ent(1024), ent(1025, x.l...), ent(1026)), x.want)
	}
}

// Of several errors of one entity its number's goes first, then the list's, then what isn't told.
func TestFormWhichGoesFirst(t *testing.T) {
	for _, x := range []struct {
		l    []api.Ent
		want api.Errno
	}{
		{list(ent(0, comp(6))), api.ErrForm},
		{list(ent(1023, life(-1))), api.ErrForm},
		{list(ent(1024), ent(1024, comp(6))), api.ErrForm},
		{list(ent(1025), ent(1024, life(-1))), api.ErrForm},
		{list(ent(1024, breeds(0, 0, 0))), api.ErrRange},
		{list(ent(1024, breeds(1, 0, 0), comp(6))), api.ErrArg},
		{list(ent(1024, breeds(1, 0, 0), life(-1))), api.ErrRange},
		{list(ent(1024, life(-1), comp(6))), api.ErrRange},
		{list(ent(1024, comp(6), life(-1))), api.ErrArg},
	} {
		mustForm(t, x.l, x.want)
	}
}

// Of several entities the first one's error is told, whatever its number is.
func TestFormWhoGoesFirst(t *testing.T) {
	wrong := []struct {
		x    api.Ent
		want api.Errno
	}{
		{ent(1025, comp(6)), api.ErrArg},
		{ent(1025, comp(api.Life, 0, 1)), api.ErrForm},
		{ent(1025, life(-1)), api.ErrRange},
		{ent(1025, breeds(1, 0, 0)), api.ErrForm},
		{ent(1, life(-1)), api.ErrForm},
	}
	for _, a := range wrong {
		for _, b := range wrong {
			mustForm(t, list(ent(1024), a.x, b.x), a.want)
			b.x.ID = 1026
			mustForm(t, list(ent(1024), a.x, b.x), a.want)
			mustForm(t, list(a.x, ent(3)), a.want)
		}
	}
}

// Told, P18.1.

func TestTold(t *testing.T) {
	for _, x := range []struct{ l, want []api.Comp }{
		{nil, nil},
		{[]api.Comp{}, nil},
		{every(), every()},
		{append(every(), breeds(1, 2, 3)), every()},
		{[]api.Comp{breeds(1, 2, 3)}, nil},
		{[]api.Comp{breeds(1, 2, 3), breeds(1, 2, 3)}, nil},
		{[]api.Comp{tag(1, 2, 3), breeds(1, 2, 3), pos(4, 5)}, []api.Comp{tag(1, 2, 3), pos(4, 5)}},
		{[]api.Comp{life(5), life(6), life(5)}, []api.Comp{life(5), life(6), life(5)}},
		{[]api.Comp{comp(6), life(-1), comp(255), comp(7)}, []api.Comp{life(-1)}},
	} {
		if got := snap.Told(x.l); !slices.Equal(got, x.want) {
			t.Fatalf("Told(%v) = %v, not %v", x.l, got, x.want)
		}
	}
}

// Take, P18.2.

// five is a world of five: with nothing, with all that is told, with what isn't told alone, with both, and with a life.
func five(t *testing.T) *world.World {
	return spawned(t, 9, 1,
		nil,
		[]api.Comp{pos(1, -2), vel(3, -4), life(5), body(6, 7, 8), tag(1, 2, 3)},
		[]api.Comp{breeds(1, 200, 3)},
		[]api.Comp{tag(4, 4, 4), breeds(1, 200, 3)},
		[]api.Comp{life(9)})
}

// fiveTold is what is told of them behind the step.
func fiveTold() []api.Ent {
	return list(
		ent(1024),
		ent(1025, pos(4, -6), vel(3, -4), life(4), body(6, 7, 8), tag(1, 2, 3)),
		ent(1026),
		ent(1027, tag(4, 4, 4)),
		ent(1028, life(8)))
}

func TestTake(t *testing.T) {
	w, all := five(t), fiveTold()
	mustTake(t, w, nil)
	mustTake(t, w, []api.ID{})
	mustTake(t, w, []api.ID{1024, 1025, 1026, 1027, 1028}, all...)
	for i, x := range all {
		mustTake(t, w, []api.ID{x.ID}, all[i])
		for j := i + 1; j < len(all); j++ {
			mustTake(t, w, []api.ID{x.ID, all[j].ID}, all[i], all[j])
		}
	}
	for _, x := range all {
		mustForm(t, list(x), api.OK)
	}
}

func TestTakeByIDsNotBySlots(t *testing.T) {
	w := five(t)
	mustPush(t, w, api.Order{Do: api.DoDespawn, ID: 1024})
	mustPush(t, w, api.Order{Do: api.DoSpawn, Comps: []api.Comp{tag(7, 7, 7)}})
	mustStep(t, w)
	mustTake(t, w, []api.ID{1026, 1027, 2048}, ent(1026), ent(1027, tag(4, 4, 4)), ent(2048, tag(7, 7, 7)))
	mustNotTake(t, w, api.ErrForm, 2048, 1026)
	mustNotTake(t, w, api.ErrDead, 1024)
	mustNotTake(t, w, api.ErrDead, 1024, 1026)
	mustNotTake(t, w, api.ErrDead, 1026, 3072)
}

func TestTakeOfTheGreatestGeneration(t *testing.T) {
	w := spawned(t, 1024, api.MaxGen)
	for range 4 {
		for range 256 {
			mustPush(t, w, api.Order{Do: api.DoSpawn, Comps: []api.Comp{life(9)}})
		}
		mustStep(t, w)
	}
	mustTake(t, w, []api.ID{greatestFirst, greatestLast}, ent(greatestFirst, life(5)), ent(greatestLast, life(8)))
	var ids []api.ID
	for i := range api.ID(1024) {
		ids = append(ids, greatestFirst+i)
	}
	if l, e := snap.Take(w, ids); e != api.OK || len(l) != 1024 || snap.Form(l) != api.OK {
		t.Fatalf("Take of all: %d, %d", len(l), e)
	}
}

func TestTakeWrong(t *testing.T) {
	w := five(t)
	for _, ids := range [][]api.ID{
		{1025, 1024},
		{1024, 1024},
		{1024, 1025, 1025},
		{1024, 1026, 1025},
		{1025, 1026, 1024},
		{1024, 0},
		{0, 0},
		{greatestLast, leastFirst},
		{greatestLast, greatestLast},
		{1 << 31, 1<<31 - 1},
		{9, 8},
		{9, 1024, 1023},
		{2048, 4096, 1024},
	} {
		mustNotTake(t, w, api.ErrForm, ids...)
	}
	for _, ids := range [][]api.ID{
		{0},
		{1},
		{1023},
		{1029},
		{2048},
		{0, 1024},
		{1024, 1025, 1026, 1027, 1028, 1029},
		{1024, 2049},
		{1000, 1024, 1025},
		{greatestLast},
		{0, 1, 2, 3},
	} {
		mustNotTake(t, w, api.ErrDead, ids...)
	}
}

// Direct, P18.2.

func TestDirectOrder(t *testing.T) {
	w := spawned(t, 9, 1, []api.Comp{pos(0, 0)}, []api.Comp{pos(1, 1)}, []api.Comp{pos(2, 2)})
	mustPush(t, w, api.Order{Do: api.DoDespawn, ID: 1024})
	mustPush(t, w, api.Order{Do: api.DoSpawn, Comps: []api.Comp{pos(3, 3)}})
	mustPush(t, w, api.Order{Do: api.DoDespawn, ID: 1025})
	mustPush(t, w, api.Order{Do: api.DoSpawn, Comps: []api.Comp{pos(4, 4)}})
	mustStep(t, w)
	mustSee(t, w, on(0, 0, 0), ent(1026, pos(2, 2)), ent(2048, pos(3, 3)), ent(2049, pos(4, 4)))
}

func TestDirectIsByCells(t *testing.T) {
	w := spawned(t, 9, 1,
		[]api.Comp{pos(0, 0), breeds(200, 200, 1)},
		[]api.Comp{pos(16383, 16383)},
		[]api.Comp{pos(16384, 0), tag(1, 1, 1)},
		[]api.Comp{pos(0, -1)},
		[]api.Comp{tag(1, 1, 1)},
		[]api.Comp{pos(32768, 0)})
	here, there := list(ent(1024, pos(0, 0)), ent(1025, pos(16383, 16383))), ent(1026, pos(16384, 0), tag(1, 1, 1))
	mustSee(t, w, on(0, 0, 0), here...)
	mustSee(t, w, on(1, 0, 0), there)
	mustSee(t, w, on(0, -1, 0), ent(1027, pos(0, -1)))
	mustSee(t, w, on(0, 0, 1), here[0], here[1], there, ent(1027, pos(0, -1)))
	mustSee(t, w, on(0, 1, 1), here[0], here[1], there)
	mustSee(t, w, on(2, 0, 0), ent(1029, pos(32768, 0)))
	mustSee(t, w, on(0, 0, 8), here[0], here[1], there, ent(1027, pos(0, -1)), ent(1029, pos(32768, 0)))
}

func TestDirectAtTheCorners(t *testing.T) {
	w := spawned(t, 9, 1,
		[]api.Comp{pos(west, west)},
		[]api.Comp{pos(west, east)},
		[]api.Comp{pos(east, west)},
		[]api.Comp{pos(east, east)})
	nw, sw, ne, se := ent(1024, pos(west, west)), ent(1025, pos(west, east)), ent(1026, pos(east, west)), ent(1027, pos(east, east))
	for _, r := range []int{0, 1, 8} {
		mustSee(t, w, on(-32, -32, r), nw)
		mustSee(t, w, on(-32, 31, r), sw)
		mustSee(t, w, on(31, -32, r), ne)
		mustSee(t, w, on(31, 31, r), se)
		mustSee(t, w, on(0, 0, r))
	}
	mustSee(t, w, on(-24, -24, 8), nw)
	mustSee(t, w, on(-23, -24, 8))
	mustSee(t, w, on(-24, -23, 8))
}

func TestDirectOfWhatSeesNobody(t *testing.T) {
	w := spawned(t, 9, 1, []api.Comp{pos(0, 0)}, []api.Comp{pos(16384, 0)})
	for _, r := range []api.Region{{}, {R: 8}, {CX: 1, R: 1}, on(5, 5, 3), on(0, 2, 1), on(-32, -32, 8)} {
		mustSee(t, w, r)
	}
}

// What is no region sees nobody.
func TestDirectOfNoRegion(t *testing.T) {
	w := spawned(t, 9, 1, []api.Comp{pos(0, 0)}, []api.Comp{pos(west, east)})
	for _, r := range []api.Region{on(0, 0, -1), on(0, 0, 9), on(-33, 0, 8), on(0, 32, 8), on(32, 32, 8), on(-33, 31, 1), on(0, 0, 1<<40)} {
		mustSee(t, w, r)
	}
}

func TestDirectOfNobody(t *testing.T) {
	mustSee(t, spawned(t, 9, 1), on(0, 0, 8))
	mustSee(t, spawned(t, 9, 1, nil, []api.Comp{tag(1, 1, 1)}), on(0, 0, 8))
}

func TestNilWorld(t *testing.T) {
	mustTake(t, nil, nil)
	mustTake(t, nil, []api.ID{})
	mustNotTake(t, nil, api.ErrDead, 1024)
	mustNotTake(t, nil, api.ErrDead, 0)
	mustNotTake(t, nil, api.ErrDead, 1024, 1025)
	mustNotTake(t, nil, api.ErrForm, 1025, 1024)
	mustNotTake(t, nil, api.ErrForm, 1024, 1024)
	mustSee(t, nil, on(0, 0, 8))
	mustSee(t, nil, api.Region{})
}

// Find, Same and Copy, P18.3.

func TestFind(t *testing.T) {
	l := list(ent(leastFirst), ent(1026, every()...), ent(2048), ent(greatestLast))
	for i, x := range l {
		mustFind(t, l, x.ID, i)
	}
	for _, id := range []api.ID{0, 1, 1023, 1025, 1027, 2047, 2049, greatestFirst, greatestLast - 1} {
		mustFind(t, l, id, -1)
	}
	mustFind(t, l[:3], greatestLast, -1)
	mustFind(t, l[1:], leastFirst, -1)
	mustFind(t, nil, 1024, -1)
	mustFind(t, nil, 0, -1)
	mustFind(t, []api.Ent{}, 1024, -1)
	mustFind(t, list(ent(1024)), 1024, 0)
	mustFind(t, list(ent(1024)), 1025, -1)
	mustFind(t, list(ent(1024)), 1023, -1)
}

func TestFindInAnyList(t *testing.T) {
	l := list(ent(5), ent(4096), ent(3), ent(2048), ent(0))
	for i, x := range l {
		mustFind(t, l, x.ID, i)
	}
	mustFind(t, l, 4, -1)
}

func TestFindInLong(t *testing.T) {
	var l []api.Ent
	for i := range 1024 {
		l = append(l, ent(api.ID(2*i+1024)))
	}
	for i, x := range l {
		mustFind(t, l, x.ID, i)
		mustFind(t, l, x.ID+1, -1)
	}
}

func TestSame(t *testing.T) {
	mustSame(t, nil, nil, true)
	mustSame(t, nil, []api.Ent{}, true)
	mustSame(t, list(ent(1024)), list(api.Ent{ID: 1024, Comps: []api.Comp{}}), true)
	mustSame(t, list(ent(1024, every()...)), list(ent(1024, every()...)), true)
	mustSame(t, fiveTold(), fiveTold(), true)
	for _, x := range []struct{ a, b []api.Ent }{
		{nil, list(ent(1024))},
		{nil, list(ent(0))},
		{list(ent(1024)), list(ent(1025))},
		{list(ent(1024)), list(ent(2048))},
		{list(ent(1024)), list(ent(1024), ent(1025))},
		{list(ent(1024), ent(1025)), list(ent(1025))},
		{list(ent(1024), ent(1025)), list(ent(1025), ent(1024))},
		{list(ent(1024)), list(ent(1024, tag(0, 0, 0)))},
		{list(ent(1024, pos(0, 0))), list(ent(1024, vel(0, 0)))},
		{list(ent(1024, pos(0, 0), tag(0, 0, 0))), list(ent(1024, pos(0, 0)))},
		{list(ent(1024, pos(0, 0), tag(0, 0, 0))), list(ent(1024, tag(0, 0, 0), pos(0, 0)))},
		{list(ent(1024, life(1)), ent(1025, life(2))), list(ent(1024, life(1)), ent(1025, life(3)))},
	} {
		mustSame(t, x.a, x.b, false)
	}
}

// Each field of each component counts.
func TestSameFieldByField(t *testing.T) {
	for i := range every() {
		for f := range 3 {
			other := every()
			other[i].F[f]++
			mustSame(t, list(ent(1024, every()...)), list(ent(1024, other...)), false)
		}
	}
}

// What is no snapshot can be the same as another one, too.
func TestSameOfAnyLists(t *testing.T) {
	strange := func() []api.Ent {
		return list(ent(5, comp(9, 1, 2, 3), life(-1)), ent(5), ent(0, breeds(0, 0, 0)))
	}
	mustSame(t, strange(), strange(), true)
	other := strange()
	other[0].Comps[0].F[2] = 4
	mustSame(t, strange(), other, false)
	other = strange()
	other[2].Comps[0].Kind = 200
	mustSame(t, strange(), other, false)
}

func TestCopy(t *testing.T) {
	for _, l := range [][]api.Ent{
		nil,
		{},
		list(ent(1024)),
		list(ent(1024, every()...)),
		fiveTold(),
		list(ent(5, comp(9, 1, 2, 3), life(-1)), ent(5), ent(0, breeds(0, 0, 0))),
	} {
		if got := snap.Copy(l); !equal(got, l) {
			t.Fatalf("Copy(%v) = %v", l, got)
		}
	}
}

// Memory.

// roomy is the same with spare room in every list, in which something stands.
func roomy(l []api.Ent) []api.Ent {
	out := make([]api.Ent, 0, len(l)+2)
	for _, x := range l {
		comps := append(append(make([]api.Comp, 0, len(x.Comps)+2), x.Comps...), comp(77, 7), comp(78, 8))
		out = append(out, ent(x.ID, comps[:len(x.Comps)]...))
		out[len(out)-1].Comps = comps[:len(x.Comps)]
	}
	return append(out, ent(77), ent(78))[:len(l)]
}

// whole is the lists with their spare room.
func whole(l []api.Ent) []api.Ent {
	var out []api.Ent
	for _, x := range l[:cap(l)] {
		out = append(out, ent(x.ID, slices.Clone(x.Comps[:cap(x.Comps)])...))
	}
	return out
}

// spoil writes over all of it, spare room too.
func spoil(l []api.Ent) {
	for _, x := range l {
		comps := x.Comps[:cap(x.Comps)]
		for i := range comps {
			comps[i] = comp(99, -9, -9, -9)
		}
	}
	l = l[:cap(l)]
	for i := range l {
		l[i] = ent(99)
	}
}

func TestHandedInIsNotChanged(t *testing.T) {
	w := five(t)
	a, b := roomy(fiveTold()), roomy(fiveTold())
	wasA, wasB := whole(a), whole(b)
	ids := []api.ID{1024, 1025, 1026, 77, 78}
	snap.Form(a)
	snap.Find(a, 1026)
	snap.Same(a, b)
	snap.Copy(a)
	for _, x := range a {
		snap.Told(x.Comps)
	}
	if _, e := snap.Take(w, ids[:3]); e != api.OK {
		t.Fatal(e)
	}
	if !equal(whole(a), wasA) || !equal(whole(b), wasB) || !slices.Equal(ids, []api.ID{1024, 1025, 1026, 77, 78}) {
		t.Fatal("what was handed in is another one", a, b, ids)
	}
	l := append(append(every(), breeds(1, 2, 3)), comp(77))
	snap.Told(l[:6])
	if !slices.Equal(l, append(append(every(), breeds(1, 2, 3)), comp(77))) {
		t.Fatal("what was handed in is another one", l)
	}
}

func TestCopySharesNothing(t *testing.T) {
	l := roomy(fiveTold())
	was := whole(l)
	got := snap.Copy(l)
	spoil(got)
	if !equal(whole(l), was) {
		t.Fatal("who writes over the copy writes over what was copied")
	}
	got = snap.Copy(l)
	again := snap.Copy(got)
	spoil(l)
	spoil(again)
	if !equal(got, fiveTold()) {
		t.Fatal("who writes over what was copied writes over the copy")
	}
}

func TestToldSharesNothing(t *testing.T) {
	for _, l := range [][]api.Comp{every(), append(every(), breeds(1, 2, 3)), {breeds(1, 2, 3)}} {
		was := slices.Clone(l)
		got := snap.Told(l)
		spoil(list(api.Ent{Comps: got}))
		if !slices.Equal(l, was) {
			t.Fatal("who writes over the answer writes over what was handed in")
		}
		got = snap.Told(l)
		for i := range l {
			l[i] = comp(99)
		}
		if len(got) > 0 && !slices.Equal(got, every()) {
			t.Fatal("who writes over what was handed in writes over the answer")
		}
	}
}

// The lists of one answer stand apart: who appends to one, or writes over it, changes no other.
func mustStandApart(t *testing.T, l []api.Ent) {
	t.Helper()
	want := whole(l)[:len(l)]
	for i := range l {
		want[i].Comps = slices.Clone(l[i].Comps)
	}
	for i, x := range l {
		comps := x.Comps[:cap(x.Comps)]
		kept := slices.Clone(comps)
		for j := range comps {
			comps[j] = comp(99, int32(i))
		}
		for j, y := range l {
			if j != i && !slices.Equal(y.Comps, want[j].Comps) {
				t.Fatalf("the lists %d and %d share memory", i, j)
			}
		}
		copy(comps, kept)
	}
}

func TestListsStandApart(t *testing.T) {
	w := spawned(t, 9, 1, []api.Comp{pos(0, 0), life(5)}, []api.Comp{pos(1, 1), life(5)}, []api.Comp{pos(2, 2), tag(1, 1, 1), breeds(9, 9, 9)})
	l, e := snap.Take(w, []api.ID{1024, 1025, 1026})
	if e != api.OK {
		t.Fatal(e)
	}
	mustStandApart(t, l)
	mustStandApart(t, snap.Direct(w, on(0, 0, 1)))
	mustStandApart(t, snap.Copy(fiveTold()))
	shared := every()
	mustStandApart(t, snap.Copy(list(ent(1024, shared...), api.Ent{ID: 1025, Comps: shared}, api.Ent{ID: 1026, Comps: shared[1:3]})))
}

func TestHandedOutIsTheCallers(t *testing.T) {
	w := spawned(t, 9, 1, []api.Comp{pos(0, 0), vel(1, 0)}, []api.Comp{pos(1, 1), life(500)})
	want := list(ent(1024, pos(1, 0), vel(1, 0)), ent(1025, pos(1, 1), life(499)))
	ids := []api.ID{1024, 1025}
	for range 3 {
		mustTake(t, w, ids, want...)
		mustSee(t, w, on(0, 0, 0), want...)
		l, _ := snap.Take(w, ids)
		spoil(l)
		spoil(snap.Direct(w, on(0, 0, 0)))
	}
	l, _ := snap.Take(w, ids)
	seen := snap.Direct(w, on(0, 0, 0))
	ids[0], ids[1] = 7, 7
	mustStep(t, w)
	mustPush(t, w, api.Order{Do: api.DoDespawn, ID: 1024})
	mustStep(t, w)
	if !equal(l, want) || !equal(seen, want) {
		t.Fatal("later calls changed an earlier answer", l, seen)
	}
	mustSee(t, w, on(0, 0, 0), ent(1025, pos(1, 1), life(497)))
}

// A long script against a plain model.

func throwComp(d *dice, kind byte) api.Comp {
	c := api.Comp{Kind: kind}
	for i := range schema.Count(kind) {
		lo, hi, _ := schema.Range(kind, i)
		c.F[i] = lo + int32(d.throw(int(hi)-int(lo)+1))
	}
	if kind == api.Pos && d.throw(2) == 0 {
		c.F[0], c.F[1] = c.F[0]/8, c.F[1]/8
	}
	return c
}

func throwComps(d *dice) []api.Comp {
	var l []api.Comp
	for kind := range byte(api.Kinds) {
		if d.throw(2) == 0 {
			l = append(l, throwComp(d, kind))
		}
	}
	return l
}

func throwOrder(d *dice, l []api.Ent) api.Order {
	if len(l) == 0 || d.throw(3) == 0 {
		return api.Order{Do: api.DoSpawn, Comps: throwComps(d)}
	}
	id, kind := l[d.throw(len(l))].ID, byte(d.throw(api.Kinds))
	switch d.throw(4) {
	case 0:
		return api.Order{Do: api.DoDespawn, ID: id}
	case 1:
		return api.Order{Do: api.DoSet, ID: id, Comps: []api.Comp{throwComp(d, kind)}}
	case 2:
		return api.Order{Do: api.DoAdd, ID: id, Comps: []api.Comp{throwComp(d, kind)}}
	}
	return api.Order{Do: api.DoRemove, ID: id, Kind: kind}
}

func throwRegion(d *dice) api.Region {
	return api.Region{On: d.throw(8) > 0, CX: d.throw(64) - 32, CY: d.throw(64) - 32, R: d.throw(9)}
}

// model is all of the world's entities as they are told, by rising IDs, of those that keep tells.
func model(w *world.World, keep func(api.Ent) bool) []api.Ent {
	var out []api.Ent
	for _, x := range w.List() {
		if keep(x) {
			out = append(out, ent(x.ID, slices.DeleteFunc(x.Comps, func(c api.Comp) bool { return c.Kind == api.Spawn })...))
		}
	}
	slices.SortFunc(out, func(a, b api.Ent) int { return cmp.Compare(a.ID, b.ID) })
	return out
}

func TestAgainstModel(t *testing.T) {
	d := dice(18)
	w := spawned(t, 60, 1)
	for range 600 {
		for range d.throw(9) {
			mustPush(t, w, throwOrder(&d, w.List()))
		}
		mustStep(t, w)
		all := model(w, func(api.Ent) bool { return true })
		some := slices.DeleteFunc(slices.Clone(all), func(api.Ent) bool { return d.throw(2) == 0 })
		var ids []api.ID
		for i, x := range some {
			ids = append(ids, x.ID)
			mustFind(t, some, x.ID, i)
		}
		mustTake(t, w, ids, some...)
		mustForm(t, all, api.OK)
		for range 8 {
			r := throwRegion(&d)
			mustSee(t, w, r, model(w, func(x api.Ent) bool {
				return len(x.Comps) > 0 && x.Comps[0].Kind == api.Pos && view.Sees(r, x.Comps[0].F[0], x.Comps[0].F[1])
			})...)
		}
	}
}

// Who is in which cell, step by step, is who is there (P3): to take those that the cells show is to ask everybody.
func TestDirectIsTakeOfVisible(t *testing.T) {
	d := dice(3)
	w, g := spawned(t, 60, 1), cells.New()
	shown := 0
	for range 600 {
		for range d.throw(9) {
			mustPush(t, w, throwOrder(&d, w.List()))
		}
		mustStep(t, w)
		follow(t, w, g)
		for range 8 {
			r := throwRegion(&d)
			want := snap.Direct(w, r)
			shown += len(want)
			mustForm(t, want, api.OK)
			mustTake(t, w, view.Visible(g, r), want...)
		}
	}
	if shown == 0 {
		t.Fatal("nobody was ever seen")
	}
}

// follow tells the cells what the last step has done.
func follow(t *testing.T, w *world.World, g *cells.Grid) {
	t.Helper()
	for _, p := range w.Places() {
		e := api.OK
		if p.On {
			e = g.Put(p.ID, p.X, p.Y)
		} else {
			e = g.Drop(p.ID)
		}
		if e != api.OK {
			t.Fatalf("following %v: %d", p, e)
		}
	}
}

// The same calls tell the same, whenever they are asked (P2).
func TestSameTwice(t *testing.T) {
	run := func() []api.Ent {
		d := dice(2)
		w := spawned(t, 40, 7)
		var out []api.Ent
		for range 200 {
			for range d.throw(6) {
				mustPush(t, w, throwOrder(&d, w.List()))
			}
			mustStep(t, w)
			out = append(out, snap.Direct(w, throwRegion(&d))...)
		}
		return out
	}
	first := run()
	if len(first) == 0 || !equal(first, run()) {
		t.Fatal("two runs tell different things")
	}
}
