package diff_test

import (
	"slices"
	"testing"

	"pinnace/api"
	"pinnace/diff"
	"pinnace/schema"
	"pinnace/snap"
)

const (
	// The IDs of the least and the greatest generation, each of the first and the last slot.
	leastFirst    = api.ID(1024)
	leastLast     = api.ID(2047)
	greatestFirst = api.ID(1<<32 - 1024)
	greatestLast  = api.ID(1<<32 - 1)
)

func comp(kind byte, f ...int32) api.Comp {
	c := api.Comp{Kind: kind}
	copy(c.F[:], f)
	return c
}

func pos(x, y int32) api.Comp { return comp(api.Pos, x, y) }

func vel(dx, dy int32) api.Comp { return comp(api.Vel, dx, dy) }

func life(left int32) api.Comp { return comp(api.Life, left) }

func body(shape, hp, size int32) api.Comp { return comp(api.Body, shape, hp, size) }

func tag(team, color, flags int32) api.Comp { return comp(api.Tag, team, color, flags) }

func breeds(every, left, shape int32) api.Comp { return comp(api.Spawn, every, left, shape) }

func ent(id api.ID, l ...api.Comp) api.Ent { return api.Ent{ID: id, Comps: l} }

func list(l ...api.Ent) []api.Ent { return l }

func comps(l ...api.Comp) []api.Comp { return l }

func ids(l ...api.ID) []api.ID { return l }

func changes(l ...api.Change) []api.Change { return l }

// every is a component of each kind that is told.
func every() []api.Comp {
	return comps(pos(1, -2), vel(3, -4), life(5), body(6, 7, 8), tag(1, 2, 3))
}

// other is another one of each kind.
func other() []api.Comp {
	return comps(pos(1, -3), vel(-3, -4), life(4), body(6, 7, 9), tag(1, 3, 3))
}

// dice throws the same numbers in every run.
type dice uint64

func (d *dice) throw(n int) int {
	*d = *d*6364136223846793005 + 1442695040888963407
	return int(uint64(*d) >> 33 % uint64(n))
}

// equal, sameDelta and equalTo are told without the packages that are tested.

func equalTo(x, y api.Ent) bool { return x.ID == y.ID && slices.Equal(x.Comps, y.Comps) }

func equal(a, b []api.Ent) bool { return slices.EqualFunc(a, b, equalTo) }

func sameDelta(a, b api.Delta) bool {
	return slices.Equal(a.Gone, b.Gone) && equal(a.Come, b.Come) &&
		slices.EqualFunc(a.Chg, b.Chg, func(x, y api.Change) bool {
			return x.ID == y.ID && x.Lost == y.Lost && slices.Equal(x.New, y.New) && slices.Equal(x.Set, y.Set)
		})
}

// mustBecome tells that d is the delta from was to now, and that Patch leads there.
func mustBecome(t *testing.T, was, now []api.Ent, want api.Delta) {
	t.Helper()
	got, e := diff.Diff(was, now)
	if e != api.OK || !sameDelta(got, want) {
		t.Fatalf("Diff(%v, %v) = %v, %d, not %v", was, now, got, e, want)
	}
	mustPatch(t, was, want, now)
}

func mustPatch(t *testing.T, was []api.Ent, d api.Delta, now []api.Ent) {
	t.Helper()
	got, e := diff.Patch(was, d)
	if e != api.OK || !equal(got, now) {
		t.Fatalf("Patch(%v, %v) = %v, %d, not %v", was, d, got, e, now)
	}
}

func mustNotPatch(t *testing.T, was []api.Ent, d api.Delta, want api.Errno) {
	t.Helper()
	if got, e := diff.Patch(was, d); e != want || len(got) != 0 {
		t.Fatalf("Patch(%v, %v) = %v, %d, not %d", was, d, got, e, want)
	}
}

func mustNotDiff(t *testing.T, was, now []api.Ent, want api.Errno) {
	t.Helper()
	if got, e := diff.Diff(was, now); e != want || !sameDelta(got, api.Delta{}) {
		t.Fatalf("Diff(%v, %v) = %v, %d, not %d", was, now, got, e, want)
	}
}

// mustGoThereAndBack diffs and patches both ways.
func mustGoThereAndBack(t *testing.T, a, b []api.Ent) {
	t.Helper()
	for range 2 {
		d, e := diff.Diff(a, b)
		if e != api.OK || diff.Empty(d) != equal(a, b) {
			t.Fatalf("Diff(%v, %v) = %v, %d", a, b, d, e)
		}
		mustPatch(t, a, d, b)
		a, b = b, a
	}
}

func TestExamples(t *testing.T) {
	was := list(ent(1025, life(5)), ent(1026))
	now := list(ent(1026, tag(0, 0, 0)), ent(1027))
	mustBecome(t, was, now, api.Delta{
		Gone: ids(1025),
		Come: list(ent(1027)),
		Chg:  changes(api.Change{ID: 1026, New: comps(tag(0, 0, 0))}),
	})
	mustNotPatch(t, nil, api.Delta{Gone: ids(1025)}, api.ErrForm)
	mustNotPatch(t, was, api.Delta{Chg: changes(api.Change{ID: 1025, Set: comps(life(5))})}, api.ErrForm)
}

// Diff, P19.1.

func TestNothing(t *testing.T) {
	for _, l := range [][]api.Ent{nil, {}, list(ent(1024)), list(ent(1024, every()...), ent(greatestLast, every()...))} {
		mustBecome(t, l, l, api.Delta{})
		mustBecome(t, l, snap.Copy(l), api.Delta{Gone: []api.ID{}, Come: []api.Ent{}, Chg: []api.Change{}})
	}
	mustBecome(t, nil, []api.Ent{}, api.Delta{})
	mustBecome(t, list(ent(1024)), list(api.Ent{ID: 1024, Comps: []api.Comp{}}), api.Delta{})
}

func TestGoneAndCome(t *testing.T) {
	one, all := list(ent(1024, life(5))), list(ent(leastFirst), ent(leastLast, every()...), ent(greatestFirst), ent(greatestLast, tag(7, 255, 31)))
	everybody := ids(leastFirst, leastLast, greatestFirst, greatestLast)
	mustBecome(t, nil, one, api.Delta{Come: one})
	mustBecome(t, one, nil, api.Delta{Gone: ids(1024)})
	mustBecome(t, nil, all, api.Delta{Come: all})
	mustBecome(t, all, nil, api.Delta{Gone: everybody})
	for i := range all {
		without := slices.Delete(slices.Clone(all), i, i+1)
		mustBecome(t, all, without, api.Delta{Gone: everybody[i : i+1]})
		mustBecome(t, without, all, api.Delta{Come: all[i : i+1]})
		mustBecome(t, all[i:i+1], without, api.Delta{Gone: everybody[i : i+1], Come: without})
	}
}

func TestSideBySide(t *testing.T) {
	for _, x := range [][2]api.ID{{1024, 1025}, {1025, 1026}, {2047, 2048}, {1<<31 - 1, 1 << 31}, {greatestLast - 1, greatestLast}} {
		a, b := list(ent(x[0], life(1))), list(ent(x[1], life(1)))
		mustBecome(t, a, b, api.Delta{Gone: ids(x[0]), Come: b})
		mustBecome(t, b, a, api.Delta{Gone: ids(x[1]), Come: a})
	}
	// A slot that is taken again is another entity.
	mustBecome(t, list(ent(1024, life(1)), ent(1025)), list(ent(1025), ent(2048, life(1))), api.Delta{Gone: ids(1024), Come: list(ent(2048, life(1)))})
	was := list(ent(1024), ent(1026, life(3)), ent(1028), ent(1030))
	now := list(ent(1025), ent(1026, life(2)), ent(1027), ent(1029), ent(1030))
	mustBecome(t, was, now, api.Delta{Gone: ids(1024, 1028), Come: list(ent(1025), ent(1027), ent(1029)), Chg: changes(api.Change{ID: 1026, Set: comps(life(2))})})
}

func TestChangeOfEachKind(t *testing.T) {
	for i, a := range every() {
		b, bit := other()[i], byte(1)<<i
		bare, with, otherwise := list(ent(1024)), list(ent(1024, a)), list(ent(1024, b))
		mustBecome(t, bare, with, api.Delta{Chg: changes(api.Change{ID: 1024, New: comps(a)})})
		mustBecome(t, with, bare, api.Delta{Chg: changes(api.Change{ID: 1024, Lost: bit})})
		mustBecome(t, with, otherwise, api.Delta{Chg: changes(api.Change{ID: 1024, Set: comps(b)})})
		rest := slices.Delete(every(), i, i+1)
		mustBecome(t, list(ent(1024, every()...)), list(ent(1024, rest...)), api.Delta{Chg: changes(api.Change{ID: 1024, Lost: bit})})
		mustBecome(t, list(ent(1024, rest...)), list(ent(1024, every()...)), api.Delta{Chg: changes(api.Change{ID: 1024, New: comps(a)})})
	}
}

// A component is another one by any of its fields.
func TestChangeOfEachField(t *testing.T) {
	for i, c := range every() {
		for f := range schema.Count(c.Kind) {
			now := every()
			now[i].F[f]++
			mustBecome(t, list(ent(1024, every()...)), list(ent(1024, now...)), api.Delta{Chg: changes(api.Change{ID: 1024, Set: comps(now[i])})})
		}
	}
}

func TestChangeOfAll(t *testing.T) {
	bare, with, otherwise := list(ent(greatestLast)), list(ent(greatestLast, every()...)), list(ent(greatestLast, other()...))
	mustBecome(t, bare, with, api.Delta{Chg: changes(api.Change{ID: greatestLast, New: every()})})
	mustBecome(t, with, bare, api.Delta{Chg: changes(api.Change{ID: greatestLast, Lost: 31})})
	mustBecome(t, with, otherwise, api.Delta{Chg: changes(api.Change{ID: greatestLast, Set: other()})})
}

func TestLosesGetsAndChanges(t *testing.T) {
	was := list(ent(1024, pos(0, 0), life(5)), ent(1025, life(9)), ent(1026, vel(0, 0), body(1, 1, 1), tag(1, 1, 1)))
	now := list(ent(1024, vel(1, 1), life(4)), ent(1025, life(9)), ent(1026, pos(2, 2), life(3), body(1, 0, 1)))
	mustBecome(t, was, now, api.Delta{Chg: changes(
		api.Change{ID: 1024, Lost: 1, New: comps(vel(1, 1)), Set: comps(life(4))},
		api.Change{ID: 1026, Lost: 2 + 16, New: comps(pos(2, 2), life(3)), Set: comps(body(1, 0, 1))},
	)})
}

// notSnaps is what can be wrong with a snapshot, and its error.
func notSnaps() []struct {
	l    []api.Ent
	want api.Errno
} {
	return []struct {
		l    []api.Ent
		want api.Errno
	}{
		{list(ent(1024, comp(6))), api.ErrArg},
		{list(ent(1024, comp(200))), api.ErrArg},
		{list(ent(0)), api.ErrForm},
		{list(ent(1023)), api.ErrForm},
		{list(ent(1024), ent(1024)), api.ErrForm},
		{list(ent(1025), ent(1024)), api.ErrForm},
		{list(ent(1024), ent(2048), ent(1025)), api.ErrForm},
		{list(ent(1024, tag(0, 0, 0), pos(0, 0))), api.ErrForm},
		{list(ent(1024, pos(0, 0), pos(0, 0))), api.ErrForm},
		{list(ent(1024, comp(api.Life, 1, 1))), api.ErrForm},
		{list(ent(1024, breeds(1, 0, 0))), api.ErrForm},
		{list(ent(1024, pos(0, 0), breeds(1, 0, 0))), api.ErrForm},
		{list(ent(1024, life(4096))), api.ErrRange},
		{list(ent(1024), ent(1025, life(-1))), api.ErrRange},
	}
}

func TestDiffWrong(t *testing.T) {
	for _, x := range notSnaps() {
		for _, l := range [][]api.Ent{nil, list(ent(1024)), list(ent(1024), ent(1025, every()...))} {
			mustNotDiff(t, x.l, l, x.want)
			mustNotDiff(t, l, x.l, x.want)
		}
		mustNotDiff(t, x.l, x.l, x.want)
		for _, y := range notSnaps() {
			mustNotDiff(t, x.l, y.l, x.want)
		}
	}
}

// Patch, P19.1.

func TestPatchOfNoSnapshot(t *testing.T) {
	for _, x := range notSnaps() {
		for _, d := range []api.Delta{{}, {Gone: ids(1024)}, {Gone: ids(9, 8)}, {Come: list(ent(4096))}, {Come: list(ent(4096, comp(6)))}} {
			mustNotPatch(t, x.l, d, x.want)
		}
	}
}

// Whatever is wrong with what comes, it is the form of the delta.
func TestPatchComeWrong(t *testing.T) {
	for _, x := range notSnaps() {
		mustNotPatch(t, nil, api.Delta{Come: x.l}, api.ErrForm)
		mustNotPatch(t, list(ent(4096)), api.Delta{Come: x.l}, api.ErrForm)
	}
	was := list(ent(1025, life(5)), ent(1027))
	for _, come := range [][]api.Ent{
		list(ent(1025, life(5))),
		list(ent(1025)),
		list(ent(1027)),
		list(ent(1024), ent(1025), ent(1026)),
		list(ent(1026), ent(1024)),
		list(ent(1028), ent(1024)),
		list(ent(1026), ent(1026)),
		list(ent(1028), ent(1028)),
		list(ent(1023)),
		list(ent(0)),
		list(ent(1028, breeds(1, 0, 0))),
	} {
		mustNotPatch(t, was, api.Delta{Come: come}, api.ErrForm)
	}
}

func TestPatchGoneWrong(t *testing.T) {
	was := list(ent(1025, life(5)), ent(1027), ent(1029))
	for _, gone := range [][]api.ID{
		{0}, {1}, {1024}, {1026}, {1028}, {1030}, {2049}, {greatestLast},
		{1025, 1025}, {1027, 1025}, {1025, 1029, 1027}, {1029, 1027, 1025},
		{1024, 1025}, {1025, 1026}, {1025, 1026, 1027}, {1025, 1027, 1029, 1030}, {1025, 1027, 1029, 1029},
	} {
		mustNotPatch(t, was, api.Delta{Gone: gone}, api.ErrForm)
		mustNotPatch(t, nil, api.Delta{Gone: gone}, api.ErrForm)
	}
}

func TestPatchOneNamedTwice(t *testing.T) {
	was := list(ent(1025, life(5)), ent(1027, life(6)))
	for _, d := range []api.Delta{
		{Gone: ids(1025), Come: list(ent(1025))},
		{Gone: ids(1025), Come: list(ent(1025, life(5)))},
		{Gone: ids(1025), Chg: changes(api.Change{ID: 1025, Lost: 4})},
		{Gone: ids(1025), Chg: changes(api.Change{ID: 1025, Set: comps(life(4))})},
		{Gone: ids(1025), Chg: changes(api.Change{ID: 1025})},
		{Come: list(ent(1026)), Chg: changes(api.Change{ID: 1026, New: comps(life(4))})},
		{Come: list(ent(1026)), Chg: changes(api.Change{ID: 1026})},
		{Chg: changes(api.Change{ID: 1025, Set: comps(life(4))}, api.Change{ID: 1025, Set: comps(life(3))})},
		{Chg: changes(api.Change{ID: 1025, Lost: 4}, api.Change{ID: 1025, New: comps(tag(0, 0, 0))})},
		{Chg: changes(api.Change{ID: 1025, Set: comps(life(4))}, api.Change{ID: 1025, Set: comps(life(4))})},
	} {
		mustNotPatch(t, was, d, api.ErrForm)
	}
}

func TestPatchChangesInAnotherOrder(t *testing.T) {
	was := list(ent(1025, life(5)), ent(1027, life(6)))
	a, b := api.Change{ID: 1025, Set: comps(life(4))}, api.Change{ID: 1027, Lost: 4}
	mustPatch(t, was, api.Delta{Chg: changes(a, b)}, list(ent(1025, life(4)), ent(1027)))
	mustNotPatch(t, was, api.Delta{Chg: changes(b, a)}, api.ErrForm)
}

func TestPatchChangeWrong(t *testing.T) {
	was := list(ent(1024), ent(1025, vel(1, 2), life(5), tag(1, 1, 1)), ent(1026))
	for _, c := range []api.Change{
		{},
		{ID: 1024},
		{ID: 1025},
		{ID: 1023, New: comps(life(5))},
		{ID: 1, New: comps(life(5))},
		{ID: 1027, New: comps(life(5))},
		{ID: 2049, Lost: 4},
		{ID: 1024, Lost: 1},
		{ID: 1024, Lost: 32},
		{ID: 1024, Lost: 64},
		{ID: 1024, Lost: 128},
		{ID: 1024, Lost: 255},
		{ID: 1024, Set: comps(life(5))},
		{ID: 1024, New: comps(breeds(1, 0, 0))},
		{ID: 1024, New: comps(comp(6))},
		{ID: 1024, New: comps(comp(255))},
		{ID: 1024, New: comps(life(-1))},
		{ID: 1024, New: comps(comp(api.Life, 1, 1))},
		{ID: 1024, New: comps(life(5), life(5))},
		{ID: 1024, New: comps(tag(0, 0, 0), life(5))},
		{ID: 1024, New: comps(life(5)), Set: comps(life(5))},
		{ID: 1024, New: comps(life(5)), Set: comps(life(6))},
		{ID: 1024, New: comps(life(5)), Lost: 4},
		{ID: 1025, Lost: 1},
		{ID: 1025, Lost: 1 + 2},
		{ID: 1025, Lost: 2 + 32},
		{ID: 1025, Lost: 2 + 64},
		{ID: 1025, Lost: 2 + 128},
		{ID: 1025, Lost: 31},
		{ID: 1025, Lost: 255},
		{ID: 1025, New: comps(life(5))},
		{ID: 1025, New: comps(life(6))},
		{ID: 1025, New: comps(pos(0, 0), life(6))},
		{ID: 1025, New: comps(body(1, 1, 1), pos(0, 0))},
		{ID: 1025, Set: comps(pos(0, 0))},
		{ID: 1025, Set: comps(life(5))},
		{ID: 1025, Set: comps(vel(1, 2), life(4))},
		{ID: 1025, Set: comps(vel(1, 3), life(5))},
		{ID: 1025, Set: comps(life(4), vel(1, 3))},
		{ID: 1025, Set: comps(life(4), life(4))},
		{ID: 1025, Set: comps(life(4), life(3))},
		{ID: 1025, Set: comps(life(4), body(1, 1, 1))},
		{ID: 1025, Set: comps(life(4096))},
		{ID: 1025, Set: comps(comp(api.Life, 4, 1))},
		{ID: 1025, Set: comps(life(4), comp(6))},
		{ID: 1025, Set: comps(life(4), breeds(1, 0, 0))},
		{ID: 1025, Lost: 4, New: comps(life(4))},
		{ID: 1025, Lost: 4, New: comps(life(5))},
		{ID: 1025, Lost: 4, Set: comps(life(4))},
		{ID: 1025, Lost: 4, New: comps(pos(0, 0)), Set: comps(vel(1, 2))},
		{ID: 1025, Lost: 4, New: comps(vel(0, 0)), Set: comps(tag(0, 0, 0))},
		{ID: 1025, Lost: 8, New: comps(pos(0, 0)), Set: comps(tag(0, 0, 0))},
	} {
		mustNotPatch(t, was, api.Delta{Chg: changes(c)}, api.ErrForm)
	}
	mustPatch(t, was, api.Delta{Chg: changes(api.Change{ID: 1025, Lost: 4, New: comps(pos(0, 0)), Set: comps(tag(0, 0, 0))})},
		list(ent(1024), ent(1025, pos(0, 0), vel(1, 2), tag(0, 0, 0)), ent(1026)))
}

// A wrong part makes the whole delta wrong, wherever it stands.
func TestPatchOneWrongAmongRight(t *testing.T) {
	was := list(ent(1024, life(1)), ent(1025, life(2)), ent(1026, life(3)), ent(1027, life(4)))
	right := func() api.Delta {
		return api.Delta{
			Gone: ids(1024, 1026),
			Come: list(ent(2048, life(1)), ent(2050)),
			Chg:  changes(api.Change{ID: 1025, Set: comps(life(1))}, api.Change{ID: 1027, Lost: 4}),
		}
	}
	mustPatch(t, was, right(), list(ent(1025, life(1)), ent(1027), ent(2048, life(1)), ent(2050)))
	for i, spoilt := range []func(d *api.Delta){
		func(d *api.Delta) { d.Gone[0] = 1023 },
		func(d *api.Delta) { d.Gone[1] = 1028 },
		func(d *api.Delta) { d.Gone[0] = 1025 },
		func(d *api.Delta) { slices.Reverse(d.Gone) },
		func(d *api.Delta) { d.Come[0].ID = 1027 },
		func(d *api.Delta) { d.Come[1].ID = 1023 },
		func(d *api.Delta) { d.Come[1].Comps = comps(comp(6)) },
		func(d *api.Delta) { slices.Reverse(d.Come) },
		func(d *api.Delta) { d.Chg[0].ID = 1024 },
		func(d *api.Delta) { d.Chg[1].ID = 1028 },
		func(d *api.Delta) { d.Chg[1].ID = 2048 },
		func(d *api.Delta) { d.Chg[0].Set[0] = life(2) },
		func(d *api.Delta) { d.Chg[0].Lost = 64 },
		func(d *api.Delta) { d.Chg[1].Lost = 0 },
		func(d *api.Delta) { slices.Reverse(d.Chg) },
	} {
		d := right()
		spoilt(&d)
		if got, e := diff.Patch(was, d); e != api.ErrForm || len(got) != 0 {
			t.Fatalf("%d: Patch(%v) = %v, %d", i, d, got, e)
		}
	}
}

func TestEmpty(t *testing.T) {
	for _, d := range []api.Delta{{}, {Gone: []api.ID{}, Come: []api.Ent{}, Chg: []api.Change{}}} {
		if !diff.Empty(d) {
			t.Fatalf("Empty(%v) = false", d)
		}
	}
	for _, d := range []api.Delta{
		{Gone: ids(1024)},
		{Gone: ids(0)},
		{Come: list(ent(1024))},
		{Come: list(ent(0))},
		{Chg: changes(api.Change{ID: 1024, Lost: 1})},
		{Chg: changes(api.Change{})},
		{Gone: ids(1024), Come: list(ent(1025)), Chg: changes(api.Change{ID: 1026, Lost: 1})},
	} {
		if diff.Empty(d) {
			t.Fatalf("Empty(%v) = true", d)
		}
	}
}

// Memory.

// grown is the same with spare room, in which by stands.
func grown[T any](l []T, by T) []T {
	return append(append(make([]T, 0, len(l)+2), l...), by, by)[:len(l)]
}

func roomy(l []api.Ent) []api.Ent {
	var out []api.Ent
	for _, x := range l {
		out = append(out, api.Ent{ID: x.ID, Comps: grown(x.Comps, comp(77))})
	}
	return grown(out, ent(77))
}

func roomyDelta(d api.Delta) api.Delta {
	var chg []api.Change
	for _, c := range d.Chg {
		chg = append(chg, api.Change{ID: c.ID, Lost: c.Lost, New: grown(c.New, comp(77)), Set: grown(c.Set, comp(77))})
	}
	return api.Delta{Gone: grown(d.Gone, 77), Come: roomy(d.Come), Chg: grown(chg, api.Change{ID: 77})}
}

// whole is the lists with their spare room, in new memory.
func whole(l []api.Ent) []api.Ent {
	var out []api.Ent
	for _, x := range l[:cap(l)] {
		out = append(out, ent(x.ID, slices.Clone(x.Comps[:cap(x.Comps)])...))
	}
	return out
}

func wholeDelta(d api.Delta) api.Delta {
	var chg []api.Change
	for _, c := range d.Chg[:cap(d.Chg)] {
		chg = append(chg, api.Change{ID: c.ID, Lost: c.Lost, New: slices.Clone(c.New[:cap(c.New)]), Set: slices.Clone(c.Set[:cap(c.Set)])})
	}
	return api.Delta{Gone: slices.Clone(d.Gone[:cap(d.Gone)]), Come: whole(d.Come), Chg: chg}
}

// spoil writes over all of a list, spare room too.
func spoil[T any](l []T, by T) {
	l = l[:cap(l)]
	for i := range l {
		l[i] = by
	}
}

func spoilSnap(l []api.Ent) {
	for _, x := range l {
		spoil(x.Comps, comp(99, -9, -9, -9))
	}
	spoil(l, ent(99))
}

func spoilDelta(d api.Delta) {
	spoilSnap(d.Come)
	for _, c := range d.Chg {
		spoil(c.New, comp(99, -9))
		spoil(c.Set, comp(99, -9))
	}
	spoil(d.Gone, 99)
	spoil(d.Chg, api.Change{ID: 99})
}

// mixed is two snapshots between which all that can happen happens.
func mixed() (was, now []api.Ent) {
	was = list(ent(1024, life(1)), ent(1025, pos(1, 1), life(2)), ent(1026, every()...), ent(1028, tag(1, 1, 1)), ent(1029, every()...))
	now = list(ent(1025, vel(1, 1), life(3), body(1, 1, 1)), ent(1026, every()...), ent(1027, every()...), ent(1029, other()...), ent(2048, pos(5, 5), tag(1, 1, 1)))
	return was, now
}

func mixedDelta() api.Delta {
	return api.Delta{
		Gone: ids(1024, 1028),
		Come: list(ent(1027, every()...), ent(2048, pos(5, 5), tag(1, 1, 1))),
		Chg: changes(
			api.Change{ID: 1025, Lost: 1, New: comps(vel(1, 1), body(1, 1, 1)), Set: comps(life(3))},
			api.Change{ID: 1029, Set: other()}),
	}
}

func TestMixed(t *testing.T) {
	was, now := mixed()
	mustBecome(t, was, now, mixedDelta())
}

func TestHandedInIsNotChanged(t *testing.T) {
	was, now := mixed()
	was, now = roomy(was), roomy(now)
	d := roomyDelta(mixedDelta())
	wantWas, wantNow, wantD := whole(was), whole(now), wholeDelta(d)
	mustBecome(t, was, now, d)
	diff.Empty(d)
	wrong := roomyDelta(mixedDelta())
	slices.Reverse(wrong.Come)
	slices.Reverse(wrong.Chg[0].New)
	wantWrong := wholeDelta(wrong)
	mustNotPatch(t, was, wrong, api.ErrForm)
	if !equal(whole(was), wantWas) || !equal(whole(now), wantNow) {
		t.Fatal("a snapshot that was handed in is another one", whole(was), whole(now))
	}
	if !sameDelta(wholeDelta(d), wantD) || !sameDelta(wholeDelta(wrong), wantWrong) {
		t.Fatal("a delta that was handed in is another one", wholeDelta(d), wholeDelta(wrong))
	}
}

func TestDiffSharesNothing(t *testing.T) {
	was, now := mixed()
	was, now = roomy(was), roomy(now)
	wantWas, wantNow := whole(was), whole(now)
	for range 2 {
		d, e := diff.Diff(was, now)
		if e != api.OK || !sameDelta(d, mixedDelta()) {
			t.Fatal(d, e)
		}
		spoilDelta(d)
		if !equal(whole(was), wantWas) || !equal(whole(now), wantNow) {
			t.Fatal("who writes over the delta writes over a snapshot")
		}
	}
	d, _ := diff.Diff(was, now)
	again, _ := diff.Diff(was, now)
	spoilDelta(again)
	spoilSnap(was)
	spoilSnap(now)
	if !sameDelta(d, mixedDelta()) {
		t.Fatal("who writes over a snapshot writes over the delta")
	}
}

func TestPatchSharesNothing(t *testing.T) {
	was, now := mixed()
	was = roomy(was)
	d := roomyDelta(mixedDelta())
	wantWas, wantD := whole(was), wholeDelta(d)
	for range 2 {
		got, e := diff.Patch(was, d)
		if e != api.OK || !equal(got, now) {
			t.Fatal(got, e)
		}
		spoilSnap(got)
		if !equal(whole(was), wantWas) || !sameDelta(wholeDelta(d), wantD) {
			t.Fatal("who writes over the answer writes over what was handed in")
		}
	}
	got, _ := diff.Patch(was, d)
	again, _ := diff.Patch(was, d)
	spoilSnap(again)
	spoilSnap(was)
	spoilDelta(d)
	if !equal(got, now) {
		t.Fatal("who writes over what was handed in writes over the answer")
	}
}

// The lists of one answer stand apart: who writes over one, spare room too, changes no other.
func mustStandApart(t *testing.T, lists [][]api.Comp) {
	t.Helper()
	for i, l := range lists {
		kept := slices.Clone(l[:cap(l)])
		var rest [][]api.Comp
		for j, m := range lists {
			if j != i {
				rest = append(rest, slices.Clone(m))
			}
		}
		spoil(l, comp(99))
		if !slices.EqualFunc(rest, slices.Delete(slices.Clone(lists), i, i+1), slices.Equal[[]api.Comp]) {
			t.Fatalf("list %d of %d shares memory with another one", i, len(lists))
		}
		copy(l[:cap(l)], kept)
	}
}

func TestListsStandApart(t *testing.T) {
	was, now := mixed()
	var lists [][]api.Comp
	d, _ := diff.Diff(was, now)
	for _, x := range d.Come {
		lists = append(lists, x.Comps)
	}
	for _, c := range d.Chg {
		lists = append(lists, c.New, c.Set)
	}
	mustStandApart(t, lists)
	got, _ := diff.Patch(was, d)
	lists = nil
	for _, x := range got {
		lists = append(lists, x.Comps)
	}
	mustStandApart(t, lists)
	// Handed in, lists may share memory; handed out, none do.
	l := every()
	got, _ = diff.Patch([]api.Ent{{ID: 1024, Comps: l}, {ID: 1025, Comps: l}}, api.Delta{Come: []api.Ent{{ID: 1026, Comps: l}, {ID: 1027, Comps: l[:2]}}})
	lists = nil
	for _, x := range got {
		lists = append(lists, x.Comps)
	}
	mustStandApart(t, lists)
}

// Long scripts.

func throwComps(d *dice) []api.Comp {
	var l []api.Comp
	for i := range byte(5) {
		if d.throw(2) == 0 {
			// Few different ones, so that many stay as they are.
			l = append(l, []api.Comp{every()[i], other()[i]}[d.throw(2)])
		}
	}
	return l
}

// throwSnap has each of a few IDs or hasn't.
func throwSnap(d *dice) []api.Ent {
	var l []api.Ent
	for _, id := range ids(1024, 1025, 1026, 2047, 2048, greatestFirst, greatestLast) {
		if d.throw(3) > 0 {
			l = append(l, ent(id, throwComps(d)...))
		}
	}
	return l
}

func TestThereAndBack(t *testing.T) {
	d := dice(19)
	for range 20000 {
		mustGoThereAndBack(t, throwSnap(&d), throwSnap(&d))
	}
}

// plain is the delta told by the document's words alone, kind by kind and ID by ID.
func plain(was, now []api.Ent) api.Delta {
	var d api.Delta
	for _, x := range was {
		if !slices.ContainsFunc(now, func(y api.Ent) bool { return x.ID == y.ID }) {
			d.Gone = append(d.Gone, x.ID)
		}
	}
	for _, y := range now {
		i := slices.IndexFunc(was, func(x api.Ent) bool { return x.ID == y.ID })
		if i < 0 {
			d.Come = append(d.Come, y)
			continue
		}
		c := api.Change{ID: y.ID}
		for kind := range byte(5) {
			isKind := func(c api.Comp) bool { return c.Kind == kind }
			a, b := slices.IndexFunc(was[i].Comps, isKind), slices.IndexFunc(y.Comps, isKind)
			switch {
			case a >= 0 && b < 0:
				c.Lost |= 1 << kind
			case a < 0 && b >= 0:
				c.New = append(c.New, y.Comps[b])
			case a >= 0 && b >= 0 && was[i].Comps[a] != y.Comps[b]:
				c.Set = append(c.Set, y.Comps[b])
			}
		}
		if c.Lost != 0 || c.New != nil || c.Set != nil {
			d.Chg = append(d.Chg, c)
		}
	}
	return d
}

func TestAgainstModel(t *testing.T) {
	d := dice(191)
	for range 20000 {
		was, now := throwSnap(&d), throwSnap(&d)
		mustBecome(t, was, now, plain(was, now))
	}
}

// A delta upon another snapshot than its own is refused, or is its own there, too.
func TestUponAnother(t *testing.T) {
	d := dice(6)
	refused, taken := 0, 0
	for range 20000 {
		was, now, upon := throwSnap(&d), throwSnap(&d), throwSnap(&d)
		if d.throw(2) == 0 {
			// Only a little is other than it was.
			upon = slices.Clone(was)
			if len(upon) > 0 {
				i := d.throw(len(upon))
				upon[i] = ent(upon[i].ID, throwComps(&d)...)
			}
		}
		delta := plain(was, now)
		got, e := diff.Patch(upon, delta)
		switch e {
		case api.OK:
			taken++
			if snap.Form(got) != api.OK || !sameDelta(plain(upon, got), delta) {
				t.Fatalf("Patch(%v, %v) = %v", upon, delta, got)
			}
		case api.ErrForm:
			refused++
			if len(got) != 0 {
				t.Fatalf("Patch(%v, %v) = %v, %d", upon, delta, got, e)
			}
		default:
			t.Fatalf("Patch(%v, %v) = %d", upon, delta, e)
		}
	}
	if refused == 0 || taken == 0 {
		t.Fatalf("refused %d, taken %d", refused, taken)
	}
}

// spoilAPart makes one part of the delta another one, by chance.
func spoilAPart(d *dice, x *api.Delta) {
	id := ids(0, 1024, 1025, 1026, 1027, 2048, greatestLast)[d.throw(7)]
	switch d.throw(6) {
	case 0:
		x.Gone = append(x.Gone, id)
	case 1:
		x.Come = append(x.Come, ent(id, throwComps(d)...))
	case 2:
		x.Chg = append(x.Chg, api.Change{ID: id, Lost: byte(d.throw(256)), New: throwComps(d), Set: throwComps(d)})
	case 3:
		if len(x.Chg) > 0 {
			x.Chg[d.throw(len(x.Chg))].Lost ^= 1 << d.throw(8)
		}
	case 4:
		if len(x.Chg) > 0 {
			x.Chg[d.throw(len(x.Chg))].New = throwComps(d)
		}
	default:
		if len(x.Chg) > 0 {
			x.Chg[d.throw(len(x.Chg))].Set = throwComps(d)
		}
	}
}

// rising tells whether each is greater than the one ahead.
func rising[T any](l []T, number func(T) uint32) bool {
	for i := 1; i < len(l); i++ {
		if number(l[i]) <= number(l[i-1]) {
			return false
		}
	}
	return true
}

// leads tells, rule by rule, whether the delta is one from was to some snapshot.
func leads(was []api.Ent, d api.Delta) bool {
	has := func(id api.ID) int { return slices.IndexFunc(was, func(x api.Ent) bool { return x.ID == id }) }
	gone := func(id api.ID) bool { return slices.Contains(d.Gone, id) }
	if !rising(d.Gone, func(id api.ID) uint32 { return uint32(id) }) || snap.Form(d.Come) != api.OK ||
		!rising(d.Chg, func(c api.Change) uint32 { return uint32(c.ID) }) {
		return false
	}
	if slices.ContainsFunc(d.Gone, func(id api.ID) bool { return has(id) < 0 }) ||
		slices.ContainsFunc(d.Come, func(x api.Ent) bool { return has(x.ID) >= 0 }) {
		return false
	}
	for _, c := range d.Chg {
		if i := has(c.ID); i < 0 || gone(c.ID) || !leadsOne(was[i].Comps, c) {
			return false
		}
	}
	return true
}

func leadsOne(l []api.Comp, c api.Change) bool {
	mask, got, set := schema.Mask(l), schema.Mask(c.New), schema.Mask(c.Set)
	if schema.List(c.New) != api.OK || schema.List(c.Set) != api.OK || c.Lost == 0 && got == 0 && set == 0 {
		return false
	}
	if c.Lost&^mask != 0 || got&mask != 0 || set&^mask != 0 || set&c.Lost != 0 {
		return false
	}
	return !slices.ContainsFunc(c.Set, func(x api.Comp) bool { return slices.Contains(l, x) })
}

// Patch takes what is a delta, and nothing else.
func TestSpoilt(t *testing.T) {
	d := dice(5)
	refused, taken := 0, 0
	for range 40000 {
		was := throwSnap(&d)
		x := plain(was, throwSnap(&d))
		for range 1 + d.throw(2) {
			spoilAPart(&d, &x)
		}
		got, e := diff.Patch(was, x)
		if leads(was, x) != (e == api.OK) || e != api.OK && e != api.ErrForm {
			t.Fatalf("Patch(%v, %v) = %v, %d", was, x, got, e)
		}
		if e == api.OK {
			taken++
			mustBecome(t, was, got, x)
		} else {
			refused++
		}
	}
	if refused == 0 || taken == 0 {
		t.Fatalf("refused %d, taken %d", refused, taken)
	}
}

// A world of all slots, all changed at once.
func TestLong(t *testing.T) {
	var was, now []api.Ent
	for i := range api.ID(api.MaxSlots) {
		was = append(was, ent(1024+i, every()...))
		now = append(now, ent(1024+i, other()...))
	}
	mustGoThereAndBack(t, was, now)
	mustGoThereAndBack(t, was, nil)
	mustGoThereAndBack(t, was[512:], now[:513])
}

// The same calls tell the same, whenever they are asked (P2).
func TestSameTwice(t *testing.T) {
	was, now := mixed()
	for range 50 {
		mustBecome(t, was, now, mixedDelta())
	}
}
