package orders_test

import (
	"math"
	"slices"
	"testing"

	"pinnace/api"
	"pinnace/orders"
	"pinnace/schema"
	"pinnace/store"
)

const (
	a api.ID = 1024
	b api.ID = 1025
	c api.ID = 1026
	d api.ID = 1027
)

func comp(kind byte, f ...int32) api.Comp {
	x := api.Comp{Kind: kind}
	copy(x.F[:], f)
	return x
}

func life(left int32) api.Comp { return comp(api.Life, left) }

func pos(x, y int32) api.Comp { return comp(api.Pos, x, y) }

func list(l ...api.Comp) []api.Comp { return l }

func spawn(l ...api.Comp) api.Order { return api.Order{Do: api.DoSpawn, Comps: l} }

func despawn(id api.ID) api.Order { return api.Order{Do: api.DoDespawn, ID: id} }

func set(id api.ID, l ...api.Comp) api.Order {
	return api.Order{Do: api.DoSet, ID: id, Comps: l}
}

func add(id api.ID, l ...api.Comp) api.Order {
	return api.Order{Do: api.DoAdd, ID: id, Comps: l}
}

func remove(id api.ID, kind byte) api.Order {
	return api.Order{Do: api.DoRemove, ID: id, Kind: kind}
}

// with is an order with these Comps, whatever it is.
func with(o api.Order, l ...api.Comp) api.Order {
	o.Comps = l
	return o
}

// marked is an order with an ID and a Kind that it may have no use for.
func marked(o api.Order, id api.ID, kind byte) api.Order {
	o.ID, o.Kind = id, kind
	return o
}

// one is a component of each kind.
var one = []api.Comp{pos(1, 2), comp(api.Vel, 3, 4), life(5), comp(api.Body, 6, 7, 8), comp(api.Tag, 1, 2, 3), comp(api.Spawn, 4, 5, 6)}

// lists is lists of components, right ones and wrong ones.
var lists = [][]api.Comp{
	nil, {}, {pos(1, 2)}, {life(0)}, {life(4095)}, {pos(1, 2), life(3)}, one,
	{life(4096)}, {life(-1)}, {comp(api.Life, 1, 1)}, {comp(api.Life, 4096, 1)}, {comp(api.Pos, 524288, 0)}, {comp(api.Body, 0, 0, 0)},
	{comp(6)}, {comp(255, 1, 2, 3)}, {comp(6, 1)},
	{life(1), pos(1, 2)}, {pos(1, 2), pos(1, 2)}, {life(1), life(2)},
	{pos(1, 2), comp(6)}, {comp(6), pos(1, 2)}, {pos(524288, 0), comp(6)}, {life(1), pos(524288, 0)}, {life(1), life(4096)}, {life(4096), comp(api.Life, 1, 1)},
	slices.Concat(one, one), slices.Repeat([]api.Comp{pos(1, 2)}, 300), {pos(1, 2), {}},
}

func copied(o api.Order) api.Order {
	o.Comps = slices.Clone(o.Comps)
	return o
}

func same(x, y api.Order) bool {
	return x.Do == y.Do && x.ID == y.ID && x.Kind == y.Kind && slices.Equal(x.Comps, y.Comps)
}

func mustCheck(t *testing.T, o api.Order, want api.Errno) {
	t.Helper()
	if e := orders.Check(o); e != want {
		t.Fatalf("Check(%v) = %d, not %d", o, e, want)
	}
}

func mustPush(t *testing.T, buf *orders.Buffer, o api.Order, want api.Errno) {
	t.Helper()
	if e := buf.Push(o); e != want {
		t.Fatalf("Push(%v) = %d, not %d", o, e, want)
	}
}

func mustLen(t *testing.T, buf *orders.Buffer, want int) {
	t.Helper()
	if n := buf.Len(); n != want {
		t.Fatalf("Len = %d, not %d", n, want)
	}
}

func mustTake(t *testing.T, buf *orders.Buffer, want ...api.Order) {
	t.Helper()
	mustLen(t, buf, len(want))
	if l := buf.Take(); !slices.EqualFunc(l, want, same) {
		t.Fatalf("Take = %v, not %v", l, want)
	}
	mustLen(t, buf, 0)
	if l := buf.Take(); len(l) != 0 {
		t.Fatalf("Take once more = %v", l)
	}
}

func mustNew(t *testing.T, n, first int) *store.Store {
	t.Helper()
	s, e := store.New(n, first)
	if e != api.OK {
		t.Fatalf("New(%d, %d) = %d", n, first, e)
	}
	return s
}

func mustDo(t *testing.T, s *store.Store, o api.Order, want api.ID) {
	t.Helper()
	if r := orders.Do(s, o); r != (api.Result{ID: want}) {
		t.Fatalf("Do(%v) = %v, not %d", o, r, want)
	}
}

// state is all that a store tells: which entities there are, by makes and rows, and what they have.
type state struct {
	groups []store.Group
	ents   []api.Ent
	room   int
}

func stateOf(s *store.Store) state {
	x := state{groups: s.Groups(), room: s.Room()}
	for _, id := range s.List() {
		ent, _ := s.Ent(id)
		x.ents = append(x.ents, ent)
	}
	return x
}

func mustStand(t *testing.T, s *store.Store, want state) {
	t.Helper()
	got := stateOf(s)
	groups := slices.EqualFunc(got.groups, want.groups, func(x, y store.Group) bool { return x.Mask == y.Mask && slices.Equal(x.IDs, y.IDs) })
	ents := slices.EqualFunc(got.ents, want.ents, func(x, y api.Ent) bool { return x.ID == y.ID && slices.Equal(x.Comps, y.Comps) })
	if !groups || !ents || got.room != want.room {
		t.Fatalf("the store has %v, not %v", got, want)
	}
}

// mustNotDo tries an order that is refused, and looks whether anything has changed.
func mustNotDo(t *testing.T, s *store.Store, o api.Order, want api.Errno) {
	t.Helper()
	was := stateOf(s)
	if r := orders.Do(s, o); r != (api.Result{E: want}) {
		t.Fatalf("Do(%v) = %v, not the error %d", o, r, want)
	}
	mustStand(t, s, was)
}

func TestCheck(t *testing.T) {
	for _, o := range []api.Order{
		spawn(), spawn(pos(1, 2)), spawn(one...), spawn(pos(-524288, 524287), life(4095)),
		despawn(a), despawn(0), despawn(math.MaxUint32), with(despawn(a), []api.Comp{}...),
		set(a, life(0)), set(0, one[5]), add(a, life(4095)), add(math.MaxUint32, one[3]),
		remove(a, 0), remove(0, 5), with(remove(a, 2), []api.Comp{}...),
	} {
		mustCheck(t, o, api.OK)
	}
}

// What isn't named isn't looked at: Kind but of DoRemove, and the ID ever.
func TestCheckLooksAtNothingElse(t *testing.T) {
	for _, o := range []api.Order{spawn(), spawn(one...), despawn(0), set(0, life(1)), add(0, life(1))} {
		for kind := range 256 {
			for _, id := range []api.ID{0, 1, 1023, a, math.MaxUint32} {
				mustCheck(t, marked(o, id, byte(kind)), api.OK)
				mustCheck(t, marked(with(o, life(1), life(2)), id, byte(kind)), api.ErrForm)
			}
		}
	}
	for _, id := range []api.ID{0, 1, 1023, a, math.MaxUint32} {
		mustCheck(t, remove(id, 5), api.OK)
		mustCheck(t, remove(id, 6), api.ErrArg)
	}
}

func TestCheckSpawn(t *testing.T) {
	mustCheck(t, spawn(life(4096)), api.ErrRange)
	mustCheck(t, spawn(comp(api.Life, 1, 1)), api.ErrForm)
	mustCheck(t, spawn(comp(6)), api.ErrArg)
	mustCheck(t, spawn(life(1), pos(1, 2)), api.ErrForm)
	mustCheck(t, spawn(life(1), life(1)), api.ErrForm)
	mustCheck(t, spawn(life(4096), comp(6)), api.ErrRange)
	mustCheck(t, spawn(life(1), pos(524288, 0)), api.ErrRange)
	for _, l := range lists {
		mustCheck(t, spawn(l...), schema.List(l))
	}
}

func TestCheckDespawn(t *testing.T) {
	for _, l := range lists {
		if len(l) == 0 {
			mustCheck(t, with(despawn(a), l...), api.OK)
		} else {
			mustCheck(t, with(despawn(a), l...), api.ErrForm)
		}
	}
}

func TestCheckSetAndAdd(t *testing.T) {
	for _, o := range []api.Order{set(a), add(a)} {
		mustCheck(t, with(o, life(4096)), api.ErrRange)
		mustCheck(t, with(o, comp(api.Life, 4096, 1)), api.ErrForm)
		mustCheck(t, with(o, comp(6, 1)), api.ErrArg)
		mustCheck(t, with(o, comp(255)), api.ErrArg)
		// That there isn't just one goes ahead of what each of them is.
		mustCheck(t, with(o), api.ErrForm)
		mustCheck(t, with(o, comp(6), comp(6)), api.ErrForm)
		mustCheck(t, with(o, life(4096), pos(1, 2)), api.ErrForm)
		mustCheck(t, with(o, pos(1, 2), life(3)), api.ErrForm)
		for _, l := range lists {
			if len(l) == 1 {
				mustCheck(t, with(o, l...), schema.Check(l[0]))
			} else {
				mustCheck(t, with(o, l...), api.ErrForm)
			}
		}
	}
}

func TestCheckRemove(t *testing.T) {
	for kind := range 256 {
		want, wantOfComps := api.OK, api.ErrForm
		if kind > 5 {
			want, wantOfComps = api.ErrArg, api.ErrArg
		}
		for _, l := range lists {
			if len(l) == 0 {
				mustCheck(t, with(remove(a, byte(kind)), l...), want)
			} else {
				mustCheck(t, with(remove(a, byte(kind)), l...), wantOfComps)
			}
		}
	}
}

func TestDoThatThereIsNot(t *testing.T) {
	buf := orders.New()
	s := mustNew(t, 3, 1)
	mustDo(t, s, spawn(life(1)), a)
	for do := range 256 {
		if do >= api.DoSpawn && do <= api.DoRemove {
			continue
		}
		for _, l := range lists {
			for _, kind := range []byte{0, 2, 6, 255} {
				o := api.Order{Do: byte(do), ID: a, Kind: kind, Comps: l}
				mustCheck(t, o, api.ErrArg)
				mustPush(t, buf, o, api.ErrArg)
				mustNotDo(t, s, o, api.ErrArg)
			}
		}
	}
	mustTake(t, buf)
}

// sorts is an order of each Do, right ones.
var sorts = []api.Order{spawn(pos(1, 2), life(3)), despawn(a), set(b, life(4)), add(c, pos(5, 6)), remove(d, api.Tag), spawn()}

func TestBuffer(t *testing.T) {
	buf := orders.New()
	mustTake(t, buf)
	for i, o := range sorts {
		mustPush(t, buf, o, api.OK)
		mustLen(t, buf, i+1)
	}
	mustTake(t, buf, sorts...)
	mustPush(t, buf, sorts[2], api.OK)
	mustTake(t, buf, sorts[2])
	// Doubles wait each for itself.
	mustPush(t, buf, sorts[1], api.OK)
	mustPush(t, buf, sorts[1], api.OK)
	mustTake(t, buf, sorts[1], sorts[1])
}

// An order waits as it is, with what isn't looked at.
func TestBufferKeepsWhatIsNotLookedAt(t *testing.T) {
	buf := orders.New()
	var want []api.Order
	for _, o := range sorts[:4] {
		o = marked(o, math.MaxUint32, 255)
		want = append(want, o)
		mustPush(t, buf, o, api.OK)
	}
	mustTake(t, buf, want...)
}

func TestExamples(t *testing.T) {
	buf := orders.New()
	mustPush(t, buf, set(a), api.ErrForm)
	mustTake(t, buf)
	s := mustNew(t, 9, 1)
	mustDo(t, s, spawn(pos(1, 2)), 1024)
	mustDo(t, s, despawn(1024), 1024)
	mustNotDo(t, s, despawn(1024), api.ErrDead)
}

func TestPushRefuses(t *testing.T) {
	buf := orders.New()
	mustPush(t, buf, sorts[0], api.OK)
	refused := map[api.Errno][]api.Order{
		api.ErrArg:   {{}, {Do: 6}, {Do: 255, Comps: one}, spawn(comp(6)), set(a, comp(6)), add(a, comp(6)), remove(a, 6), with(remove(a, 6), one...)},
		api.ErrForm:  {spawn(life(1), pos(1, 2)), with(despawn(a), life(1)), set(a), add(a), set(a, one...), add(a, one...), with(remove(a, 2), life(1))},
		api.ErrRange: {spawn(life(4096)), set(a, life(4096)), add(a, life(4096))},
	}
	for e, l := range refused {
		for _, o := range l {
			mustPush(t, buf, o, e)
			mustLen(t, buf, 1)
		}
	}
	mustPush(t, buf, sorts[1], api.OK)
	mustTake(t, buf, sorts[0], sorts[1])
}

func TestFullBuffer(t *testing.T) {
	buf := orders.New()
	// As many times as memory may be used again.
	for range 3 {
		var want []api.Order
		for i := range api.MaxOrders {
			o := set(api.ID(i), life(int32(i)))
			want = append(want, o)
			mustPush(t, buf, o, api.OK)
		}
		for _, o := range sorts {
			mustPush(t, buf, o, api.ErrFull)
		}
		// What is wrong with the order goes first.
		mustPush(t, buf, set(a), api.ErrForm)
		mustPush(t, buf, set(a, life(4096)), api.ErrRange)
		mustPush(t, buf, api.Order{}, api.ErrArg)
		mustTake(t, buf, want...)
		mustPush(t, buf, sorts[0], api.OK)
		mustTake(t, buf, sorts[0])
	}
	if api.MaxOrders != 256 {
		t.Fatal(api.MaxOrders)
	}
}

func TestNoBuffer(t *testing.T) {
	var buf *orders.Buffer
	for _, o := range sorts {
		mustPush(t, buf, o, api.ErrNone)
	}
	// Whatever else applies.
	mustPush(t, buf, api.Order{}, api.ErrNone)
	mustPush(t, buf, set(a), api.ErrNone)
	mustPush(t, buf, spawn(life(4096)), api.ErrNone)
	mustTake(t, buf)
}

func TestBuffersAreApart(t *testing.T) {
	x, y := orders.New(), orders.New()
	mustPush(t, x, sorts[0], api.OK)
	mustPush(t, y, sorts[1], api.OK)
	mustPush(t, x, sorts[2], api.OK)
	mustTake(t, x, sorts[0], sorts[2])
	mustTake(t, y, sorts[1])
}

func scribbleComps(l []api.Comp) {
	l = l[:cap(l)]
	for i := range l {
		l[i] = comp(77, 7, 7, 7)
	}
}

// What is pushed isn't kept, its spare room neither: the caller may write over it.
func TestPushKeepsNothing(t *testing.T) {
	buf := orders.New()
	l := append(make([]api.Comp, 0, 4), pos(1, 2), life(3))
	mustPush(t, buf, spawn(l...), api.OK)
	mustPush(t, buf, set(a, l[:1]...), api.OK)
	mustPush(t, buf, add(a, l[1:]...), api.OK)
	mustPush(t, buf, spawn(l[:0]...), api.OK)
	scribbleComps(l)
	mustTake(t, buf, spawn(pos(1, 2), life(3)), set(a, pos(1, 2)), add(a, life(3)), spawn())
}

// What is handed in isn't changed, neither while it waits nor when it was taken and is written over, nor by what is done.
func TestNothingHandedInIsChanged(t *testing.T) {
	room := append(make([]api.Comp, 0, 4), life(3), pos(1, 2), life(9), pos(8, 8))
	want := slices.Clone(room)
	given := []api.Order{spawn(room[:1]...), set(a, room[:1]...), add(a, room[1:2]...), spawn(room[:2]...), with(despawn(a), room[:2]...), spawn(room[:0]...)}
	was := slices.Clone(given)
	check := func() {
		t.Helper()
		if !slices.Equal(room, want) || !slices.EqualFunc(given, was, same) {
			t.Fatal(room, given)
		}
	}
	buf := orders.New()
	for _, o := range given {
		orders.Check(o)
		buf.Push(o)
		check()
	}
	taken := buf.Take()
	check()
	for i := range taken {
		scribbleComps(taken[i].Comps)
		taken[i] = api.Order{Do: 9}
	}
	check()
	s := mustNew(t, 9, 1)
	for _, o := range given {
		orders.Do(s, o)
		check()
	}
	orders.All(s, given)
	check()
}

// What was taken is the caller's: later calls don't change it, and it shares nothing with what waits or is taken later.
func TestTakenIsTheCallers(t *testing.T) {
	buf := orders.New()
	for _, o := range sorts {
		mustPush(t, buf, o, api.OK)
	}
	first := buf.Take()
	for range api.MaxOrders {
		mustPush(t, buf, set(a, life(99)), api.OK)
	}
	if !slices.EqualFunc(first, sorts, same) {
		t.Fatal(first)
	}
	second := buf.Take()
	if !slices.EqualFunc(first, sorts, same) {
		t.Fatal(first)
	}
	mustPush(t, buf, set(b, life(98)), api.OK)
	for _, l := range [][]api.Order{first, second[1:]} {
		for i := range l {
			scribbleComps(l[i].Comps)
		}
		l = l[:cap(l)]
		for i := range l {
			l[i] = api.Order{Do: 77, Comps: list(life(77))}
		}
	}
	// The lists of one answer don't share either.
	if !same(second[0], set(a, life(99))) {
		t.Fatal(second[0])
	}
	mustTake(t, buf, set(b, life(98)))
}

func TestEachDo(t *testing.T) {
	s, twin := mustNew(t, 3, 1), mustNew(t, 3, 1)
	mustDo(t, s, spawn(pos(1, 2)), a)
	mustDo(t, s, spawn(), b)
	mustDo(t, s, spawn(one...), c)
	for _, l := range [][]api.Comp{{pos(1, 2)}, nil, one} {
		twin.Spawn(l)
	}
	mustStand(t, s, stateOf(twin))
	mustDo(t, s, set(a, pos(3, 4)), a)
	twin.Set(a, pos(3, 4))
	mustStand(t, s, stateOf(twin))
	mustDo(t, s, add(a, life(5)), a)
	twin.Add(a, life(5))
	mustStand(t, s, stateOf(twin))
	mustDo(t, s, remove(a, api.Pos), a)
	twin.Remove(a, api.Pos)
	mustStand(t, s, stateOf(twin))
	mustDo(t, s, despawn(a), a)
	twin.Despawn(a)
	mustStand(t, s, stateOf(twin))
	mustDo(t, s, spawn(life(6)), 2048)
	twin.Spawn(list(life(6)))
	mustStand(t, s, stateOf(twin))
	for kind := range byte(api.Kinds) {
		mustDo(t, s, remove(c, kind), c)
		mustDo(t, s, add(c, one[kind]), c)
		mustDo(t, s, set(c, one[kind]), c)
	}
}

// What an order has beside what its Do names does nothing.
func TestWhatIsNotNamedDoesNothing(t *testing.T) {
	s := mustNew(t, 4, 1)
	mustDo(t, s, marked(spawn(pos(1, 2), life(3)), 5555, 255), a)
	mustDo(t, s, marked(spawn(life(4)), a, 2), b)
	mustDo(t, s, marked(set(a, life(5)), a, api.Pos), a)
	mustDo(t, s, marked(add(b, pos(6, 7)), b, 200), b)
	mustDo(t, s, marked(despawn(b), b, api.Life), b)
	if x, e := s.Ent(a); e != api.OK || !slices.Equal(x.Comps, list(pos(1, 2), life(5))) || s.Len() != 1 {
		t.Fatal(x, e, s.Len())
	}
}

func TestErrorsOfTheStore(t *testing.T) {
	s := mustNew(t, 2, 1)
	mustDo(t, s, spawn(pos(1, 2)), a)
	mustDo(t, s, spawn(), b)
	mustNotDo(t, s, spawn(), api.ErrFull)
	mustNotDo(t, s, spawn(one...), api.ErrFull)
	mustNotDo(t, s, set(a, life(1)), api.ErrNone)
	mustNotDo(t, s, set(b, pos(1, 2)), api.ErrNone)
	mustNotDo(t, s, add(a, pos(3, 4)), api.ErrTwice)
	mustNotDo(t, s, remove(a, api.Life), api.ErrNone)
	mustNotDo(t, s, remove(b, api.Pos), api.ErrNone)
	mustDo(t, s, despawn(b), b)
	mustDo(t, s, spawn(life(1)), b+1024)
	// Numbers that never were, that are no longer, that are no number.
	for _, id := range []api.ID{0, 1, 1023, b, c, a + 1024, b + 2048, 2048, math.MaxUint32} {
		mustNotDo(t, s, despawn(id), api.ErrDead)
		mustNotDo(t, s, set(id, life(1)), api.ErrDead)
		mustNotDo(t, s, add(id, life(1)), api.ErrDead)
		mustNotDo(t, s, remove(id, api.Life), api.ErrDead)
	}
}

// Check's error goes ahead of the store's.
func TestErrorsOfCheckGoFirst(t *testing.T) {
	full := mustNew(t, 1, 1)
	mustDo(t, full, spawn(pos(1, 2)), a)
	empty := mustNew(t, 1, 1)
	for _, s := range []*store.Store{full, empty, nil} {
		for _, id := range []api.ID{0, a, b} {
			mustNotDo(t, s, spawn(life(4096)), api.ErrRange)
			mustNotDo(t, s, spawn(life(1), life(1)), api.ErrForm)
			mustNotDo(t, s, with(despawn(id), pos(1, 2)), api.ErrForm)
			mustNotDo(t, s, set(id), api.ErrForm)
			mustNotDo(t, s, set(id, one...), api.ErrForm)
			mustNotDo(t, s, set(id, pos(524288, 0)), api.ErrRange)
			mustNotDo(t, s, add(id), api.ErrForm)
			mustNotDo(t, s, add(id, comp(6)), api.ErrArg)
			mustNotDo(t, s, remove(id, 6), api.ErrArg)
			mustNotDo(t, s, with(remove(id, 0), pos(1, 2)), api.ErrForm)
			mustNotDo(t, s, with(remove(id, 6), pos(1, 2)), api.ErrArg)
			mustNotDo(t, s, api.Order{ID: id}, api.ErrArg)
		}
	}
}

func TestNoStore(t *testing.T) {
	for _, o := range sorts {
		mustNotDo(t, nil, o, api.ErrNone)
	}
	got := orders.All(nil, []api.Order{spawn(), set(a), despawn(a), {}, remove(a, 6), add(a, life(4096)), add(a, life(1))})
	want := []api.Result{{E: api.ErrNone}, {E: api.ErrForm}, {E: api.ErrNone}, {E: api.ErrArg}, {E: api.ErrArg}, {E: api.ErrRange}, {E: api.ErrNone}}
	if !slices.Equal(got, want) {
		t.Fatal(got)
	}
}

func TestAll(t *testing.T) {
	s := mustNew(t, 2, 1)
	for _, l := range [][]api.Order{nil, {}} {
		if r := orders.All(s, l); len(r) != 0 {
			t.Fatal(r)
		}
	}
	// One goes wrong and the next is done; each sees what those ahead have done.
	got := orders.All(s, []api.Order{
		spawn(pos(1, 2)), spawn(), spawn(), despawn(b), despawn(b), spawn(life(3)), {},
		add(a, life(4)), add(a, life(5)), set(a, life(6)), remove(a, api.Pos), remove(a, api.Pos), set(b + 1024),
	})
	want := []api.Result{
		{ID: a}, {ID: b}, {E: api.ErrFull}, {ID: b}, {E: api.ErrDead}, {ID: b + 1024}, {E: api.ErrArg},
		{ID: a}, {E: api.ErrTwice}, {ID: a}, {ID: a}, {E: api.ErrNone}, {E: api.ErrForm},
	}
	if !slices.Equal(got, want) {
		t.Fatal(got)
	}
	x, _ := s.Ent(a)
	y, _ := s.Ent(b + 1024)
	if s.Len() != 2 || !slices.Equal(x.Comps, list(life(6))) || !slices.Equal(y.Comps, list(life(3))) {
		t.Fatal(x, y)
	}
}

// More orders than a buffer holds are done all the same.
func TestAllOfMany(t *testing.T) {
	s := mustNew(t, api.MaxSlots, 1)
	r := orders.All(s, slices.Repeat([]api.Order{spawn(life(1))}, 1500))
	for i, x := range r {
		if i < 1024 && x != (api.Result{ID: a + api.ID(i)}) || i >= 1024 && x != (api.Result{E: api.ErrFull}) {
			t.Fatal(i, x)
		}
	}
	if len(r) != 1500 || s.Len() != 1024 {
		t.Fatal(len(r), s.Len())
	}
}

// What is done isn't kept, and the results are the caller's.
func TestDoKeepsNothing(t *testing.T) {
	s := mustNew(t, 5, 1)
	l := append(make([]api.Comp, 0, 4), pos(1, 2), life(3))
	given := []api.Order{spawn(l...), spawn(), add(b, l[:1]...), add(b, l[1:]...), set(b, l[1:]...)}
	r := orders.All(s, given)
	was := stateOf(s)
	scribbleComps(l)
	for i := range given {
		given[i] = api.Order{}
	}
	mustStand(t, s, was)
	more := orders.All(s, []api.Order{spawn(), despawn(0)})
	if !slices.Equal(r, []api.Result{{ID: a}, {ID: b}, {ID: b}, {ID: b}, {ID: b}}) {
		t.Fatal(r)
	}
	r = r[:cap(r)]
	for i := range r {
		r[i] = api.Result{E: 77, ID: 77}
	}
	if !slices.Equal(more, []api.Result{{ID: c}, {E: api.ErrDead}}) {
		t.Fatal(more)
	}
}

// told is what the chapter says of an order, by the store's own calls.
func told(s *store.Store, o api.Order) api.Result {
	if e := orders.Check(o); e != api.OK {
		return api.Result{E: e}
	}
	r := api.Result{ID: o.ID}
	switch o.Do {
	case api.DoSpawn:
		r.ID, r.E = s.Spawn(o.Comps)
	case api.DoDespawn:
		r.E = s.Despawn(o.ID)
	case api.DoSet:
		r.E = s.Set(o.ID, o.Comps[0])
	case api.DoAdd:
		r.E = s.Add(o.ID, o.Comps[0])
	case api.DoRemove:
		r.E = s.Remove(o.ID, o.Kind)
	}
	if r.E != api.OK {
		r.ID = 0
	}
	return r
}

// dice throws the same numbers in every run.
type dice uint64

func (d *dice) throw(n int) int {
	*d = *d*6364136223846793005 + 1442695040888963407
	return int(uint64(*d) >> 33 % uint64(n))
}

// any is an order that is right more often than not.
func (d *dice) any(live []api.ID) api.Order {
	o := api.Order{Do: byte(1 + d.throw(5)), ID: api.ID(d.throw(4*1024 + 8)), Kind: byte(d.throw(7))}
	if len(live) > 0 && d.throw(5) > 0 {
		o.ID = live[d.throw(len(live))]
	}
	switch {
	case d.throw(12) == 0:
		o.Comps = lists[d.throw(len(lists))]
	case o.Do == api.DoSet || o.Do == api.DoAdd:
		o.Comps = list(one[d.throw(6)])
	case o.Do == api.DoSpawn:
		o.Comps = one[d.throw(6):]
	}
	if d.throw(20) == 0 {
		o.Do = byte(d.throw(256))
	}
	return o
}

// Long scripts: orders wait, are taken and done, and go to another store by its own calls beside it.
func TestLongScript(t *testing.T) {
	for seed := range dice(10) {
		throws := seed
		s, twin := mustNew(t, 8, api.MaxGen-20), mustNew(t, 8, api.MaxGen-20)
		buf := orders.New()
		var waits []api.Order
		for range 6000 {
			o := throws.any(twin.List())
			want := orders.Check(o)
			if want == api.OK && len(waits) == api.MaxOrders {
				want = api.ErrFull
			}
			mustPush(t, buf, o, want)
			if want == api.OK {
				waits = append(waits, copied(o))
			}
			mustLen(t, buf, len(waits))
			if throws.throw(250) > 0 {
				continue
			}
			l := buf.Take()
			if !slices.EqualFunc(l, waits, same) {
				t.Fatalf("Take = %v, not %v", l, waits)
			}
			waits = nil
			r := orders.All(s, l)
			for i, o := range l {
				if x := told(twin, o); r[i] != x {
					t.Fatalf("%v: %v, not %v", o, r[i], x)
				}
			}
			mustStand(t, s, stateOf(twin))
		}
	}
}

// One by one, with the state looked at behind each.
func TestLongScriptOneByOne(t *testing.T) {
	for seed := range dice(10) {
		throws := seed + 100
		s, twin := mustNew(t, 6, 1), mustNew(t, 6, 1)
		for range 3000 {
			o := throws.any(s.List())
			if r, want := orders.Do(s, o), told(twin, o); r != want {
				t.Fatalf("Do(%v) = %v, not %v", o, r, want)
			}
			mustStand(t, s, stateOf(twin))
		}
	}
}
