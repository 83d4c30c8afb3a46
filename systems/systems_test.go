package systems_test

import (
	"maps"
	"math"
	"slices"
	"testing"

	"pinnace/api"
	"pinnace/schema"
	"pinnace/slots"
	"pinnace/store"
	"pinnace/systems"
)

const (
	a api.ID = 1024
	b api.ID = 1025
	c api.ID = 1026
	d api.ID = 1027
	e api.ID = 1028
	f api.ID = 1029

	// later is how much more an ID has in its slot's next generation.
	later = 1024
)

const (
	west = -524288
	east = 524287
)

func comp(kind byte, f ...int32) api.Comp {
	x := api.Comp{Kind: kind}
	copy(x.F[:], f)
	return x
}

func pos(x, y int32) api.Comp { return comp(api.Pos, x, y) }

func vel(dx, dy int32) api.Comp { return comp(api.Vel, dx, dy) }

func life(left int32) api.Comp { return comp(api.Life, left) }

func body(shape, hp, size int32) api.Comp { return comp(api.Body, shape, hp, size) }

func tag(team, color, flags int32) api.Comp { return comp(api.Tag, team, color, flags) }

func spawn(every, left, shape int32) api.Comp { return comp(api.Spawn, every, left, shape) }

func ent(id api.ID, l ...api.Comp) api.Ent { return api.Ent{ID: id, Comps: l} }

// dice throws the same numbers in every run.
type dice uint64

func (d *dice) throw(n int) int {
	*d = *d*6364136223846793005 + 1442695040888963407
	return int(uint64(*d) >> 33 % uint64(n))
}

func mustNew(t *testing.T, n, first int) *store.Store {
	t.Helper()
	s, e := store.New(n, first)
	if e != api.OK {
		t.Fatalf("New(%d, %d) = %d", n, first, e)
	}
	return s
}

func mustSpawn(t *testing.T, s *store.Store, l ...api.Comp) api.ID {
	t.Helper()
	id, e := s.Spawn(l)
	if e != api.OK {
		t.Fatalf("Spawn(%v) = %d", l, e)
	}
	return id
}

func must(t *testing.T, e api.Errno) {
	t.Helper()
	if e != api.OK {
		t.Fatalf("error %d", e)
	}
}

func mustTell(t *testing.T, what string, got []api.ID, want ...api.ID) {
	t.Helper()
	if !slices.Equal(got, want) {
		t.Fatalf("%s tells %v, not %v", what, got, want)
	}
}

func all(s *store.Store) []api.Ent {
	var l []api.Ent
	for _, id := range s.List() {
		x, _ := s.Ent(id)
		l = append(l, x)
	}
	return l
}

func sameEnt(x, y api.Ent) bool { return x.ID == y.ID && slices.Equal(x.Comps, y.Comps) }

// mustHave looks whether these, by rising slots, are all that the store has.
func mustHave(t *testing.T, s *store.Store, want ...api.Ent) {
	t.Helper()
	if got := all(s); !slices.EqualFunc(got, want, sameEnt) {
		t.Fatalf("the store has %v, not %v", got, want)
	}
}

func sameGroups(x, y []store.Group) bool {
	return slices.EqualFunc(x, y, func(x, y store.Group) bool { return x.Mask == y.Mask && slices.Equal(x.IDs, y.IDs) })
}

// The chapter's examples.

func TestMoveExample(t *testing.T) {
	s := mustNew(t, 9, 1)
	mustSpawn(t, s, pos(524280, 0), vel(16, -1))
	mustTell(t, "Move", systems.Move(s), a)
	mustHave(t, s, ent(a, pos(524287, -1), vel(-16, -1)))
}

func TestAgeExample(t *testing.T) {
	s := mustNew(t, 9, 1)
	mustSpawn(t, s, life(0))
	mustTell(t, "Age", systems.Age(s), a)
	mustHave(t, s)
}

func TestBreedExample(t *testing.T) {
	s := mustNew(t, 9, 1)
	mustSpawn(t, s, pos(7, -8), spawn(5, 0, 1))
	mustTell(t, "Breed", systems.Breed(s), b)
	mustHave(t, s,
		ent(a, pos(7, -8), spawn(5, 4, 1)),
		ent(b, pos(7, -8), vel(128, 64), life(40), body(1, 100, 2)))
}

// Move, P14.1.

// step is where one comes along one axis, by the chapter's words.
type step struct{ at, by, to, then int32 }

var steps = []step{
	{0, 0, 0, 0}, {0, 5, 5, 5}, {0, -5, -5, -5}, {-3, 3, 0, 3}, {10, 32767, 32777, 32767}, {10, -32768, -32758, -32768},
	// To the very end, and not beyond it.
	{east - 16, 16, east, 16}, {east - 16, 15, east - 1, 15}, {east - 16, 17, east, -17},
	{west + 16, -16, west, -16}, {west + 16, -15, west + 1, -15}, {west + 16, -17, west, 17},
	// From the end.
	{east, 0, east, 0}, {east, 1, east, -1}, {east, -1, east - 1, -1}, {east, 32767, east, -32767}, {east, -32768, east - 32768, -32768},
	{west, 0, west, 0}, {west, -1, west, 1}, {west, 1, west + 1, 1}, {west, 32767, west + 32767, 32767}, {west, -32768, west, 32767},
	// The speed that can't just be turned, and those beside it.
	{west + 1, -32768, west, 32767}, {west + 32767, -32768, west, 32767}, {west + 32768, -32768, west, -32768}, {west, -32767, west, 32767},
	{east - 32766, 32767, east, -32767}, {east - 32767, 32767, east, 32767},
}

// Each way along x with each along y: neither looks at the other.
func TestMoveAlongBothAxes(t *testing.T) {
	for _, x := range steps {
		for _, y := range steps {
			s := mustNew(t, 1, 1)
			mustSpawn(t, s, pos(x.at, y.at), vel(x.by, y.by))
			moved := systems.Move(s)
			if x.to == x.at && y.to == y.at {
				mustTell(t, "Move", moved)
			} else {
				mustTell(t, "Move", moved, a)
			}
			mustHave(t, s, ent(a, pos(x.to, y.to), vel(x.then, y.then)))
		}
	}
}

func TestMoveTurnsAndComesBack(t *testing.T) {
	s := mustNew(t, 1, 1)
	mustSpawn(t, s, pos(east-10, west+10), vel(7, -7))
	for _, x := range []struct{ in, by int32 }{{3, 7}, {0, -7}, {7, -7}, {14, -7}} {
		mustTell(t, "Move", systems.Move(s), a)
		mustHave(t, s, ent(a, pos(east-x.in, west+x.in), vel(x.by, -x.by)))
	}
}

// Only those that have both move; nothing else of them changes.
func TestMoveWho(t *testing.T) {
	for mask := range byte(1 << api.Kinds) {
		s := mustNew(t, 1, 1)
		full := []api.Comp{pos(1, 2), vel(3, 4), life(0), body(1, 2, 3), tag(1, 2, 3), spawn(4, 0, 5)}
		want := []api.Comp{pos(4, 6), vel(3, 4), life(0), body(1, 2, 3), tag(1, 2, 3), spawn(4, 0, 5)}
		both := mask&3 == 3
		if !both {
			want = slices.Clone(full)
		}
		lacks := func(x api.Comp) bool { return mask>>x.Kind&1 == 0 }
		full, want = slices.DeleteFunc(full, lacks), slices.DeleteFunc(want, lacks)
		mustSpawn(t, s, full...)
		moved := systems.Move(s)
		if both {
			mustTell(t, "Move", moved, a)
		} else {
			mustTell(t, "Move", moved)
		}
		mustHave(t, s, ent(a, want...))
	}
}

// Those that moved are told by rising slots, whatever their generations and makes are.
func TestMoveTellsBySlots(t *testing.T) {
	s := mustNew(t, 9, 1)
	for range 6 {
		mustSpawn(t, s, pos(0, 0), vel(1, 0))
	}
	must(t, s.Despawn(a))
	mustSpawn(t, s, pos(0, 0), vel(0, 1), tag(1, 1, 1))
	must(t, s.Set(b, vel(0, 0)))
	must(t, s.Set(c, pos(east, 0)))
	must(t, s.Add(e, life(0)))
	must(t, s.Remove(f, api.Vel))
	mustTell(t, "Move", systems.Move(s), a+later, d, e)
	mustHave(t, s,
		ent(a+later, pos(0, 1), vel(0, 1), tag(1, 1, 1)), ent(b, pos(0, 0), vel(0, 0)), ent(c, pos(east, 0), vel(-1, 0)),
		ent(d, pos(1, 0), vel(1, 0)), ent(e, pos(1, 0), vel(1, 0), life(0)), ent(f, pos(0, 0)))
}

// Age, P14.2.

func TestAge(t *testing.T) {
	s := mustNew(t, 9, 1)
	mustSpawn(t, s, pos(1, 2), life(1))
	mustSpawn(t, s, life(0), tag(1, 2, 3))
	mustSpawn(t, s, pos(1, 2))
	mustSpawn(t, s, life(4095), spawn(1, 0, 0))
	mustSpawn(t, s)
	mustTell(t, "Age", systems.Age(s), b)
	mustHave(t, s, ent(a, pos(1, 2), life(0)), ent(c, pos(1, 2)), ent(d, life(4094), spawn(1, 0, 0)), ent(e))
	mustTell(t, "Age", systems.Age(s), a)
	mustHave(t, s, ent(c, pos(1, 2)), ent(d, life(4093), spawn(1, 0, 0)), ent(e))
	mustTell(t, "Age", systems.Age(s))
}

func TestAgeWholeLife(t *testing.T) {
	s := mustNew(t, 1, 1)
	mustSpawn(t, s, life(4095))
	for left := int32(4095); left > 0; left-- {
		mustHave(t, s, ent(a, life(left)))
		mustTell(t, "Age", systems.Age(s))
	}
	mustHave(t, s, ent(a, life(0)))
	mustTell(t, "Age", systems.Age(s), a)
	mustHave(t, s)
	mustTell(t, "Age", systems.Age(s))
}

// They go by rising slots, so that the greatest slot is the first to be used again.
func TestAgeBySlots(t *testing.T) {
	s := mustNew(t, 5, 1)
	for range 5 {
		mustSpawn(t, s, life(0))
	}
	must(t, s.Despawn(b))
	must(t, s.Despawn(d))
	// The slot that was freed last is used again first: d's, which makes the rows of the table differ from the slots.
	mustSpawn(t, s, life(0))
	mustSpawn(t, s, life(0))
	must(t, s.Add(a, tag(1, 1, 1)))
	must(t, s.Set(c, life(1)))
	mustTell(t, "Age", systems.Age(s), a, b+later, d+later, e)
	mustHave(t, s, ent(c, life(0)))
	for _, want := range []api.ID{e + later, d + 2*later, b + 2*later, a + later} {
		if id := mustSpawn(t, s); id != want {
			t.Fatalf("the next one is %d, not %d", id, want)
		}
	}
}

// Whose slot has had its last generation leaves no room.
func TestAgeLastGeneration(t *testing.T) {
	s := mustNew(t, 1, api.MaxGen)
	id := mustSpawn(t, s, life(0))
	mustTell(t, "Age", systems.Age(s), id)
	if s.Room() != 0 || s.Live(id) {
		t.Fatalf("room %d, %d is there: %v", s.Room(), id, s.Live(id))
	}
}

// Breed, P14.3.

func TestBreedWaits(t *testing.T) {
	s := mustNew(t, 9, 1)
	mustSpawn(t, s, pos(0, 0), spawn(3, 2, 0))
	child := []api.Comp{pos(0, 0), vel(64, 32), life(30), body(0, 100, 1)}
	mustTell(t, "Breed", systems.Breed(s))
	mustHave(t, s, ent(a, pos(0, 0), spawn(3, 1, 0)))
	mustTell(t, "Breed", systems.Breed(s))
	mustHave(t, s, ent(a, pos(0, 0), spawn(3, 0, 0)))
	mustTell(t, "Breed", systems.Breed(s), b)
	mustHave(t, s, ent(a, pos(0, 0), spawn(3, 2, 0)), ent(b, child...))
	mustTell(t, "Breed", systems.Breed(s))
	mustTell(t, "Breed", systems.Breed(s))
	mustTell(t, "Breed", systems.Breed(s), c)
	mustHave(t, s, ent(a, pos(0, 0), spawn(3, 2, 0)), ent(b, child...), ent(c, child...))
}

// The edges of every and left: each tick one, and left above every.
func TestBreedEdges(t *testing.T) {
	for _, x := range []struct {
		was, then api.Comp
		begets    bool
	}{
		{spawn(1, 0, 0), spawn(1, 0, 0), true},
		{spawn(255, 0, 0), spawn(255, 254, 0), true},
		{spawn(255, 254, 0), spawn(255, 253, 0), false},
		{spawn(1, 254, 0), spawn(1, 253, 0), false},
		{spawn(1, 1, 0), spawn(1, 0, 0), false},
		{spawn(2, 0, 0), spawn(2, 1, 0), true},
	} {
		s := mustNew(t, 2, 1)
		mustSpawn(t, s, pos(0, 0), x.was)
		if n := len(systems.Breed(s)); n == 1 != x.begets {
			t.Fatalf("%v begets %d", x.was, n)
		}
		if got, _ := s.Get(a, api.Spawn); got != x.then {
			t.Fatalf("%v becomes %v, not %v", x.was, got, x.then)
		}
	}
}

// Only those that have both beget; nothing else of them changes.
func TestBreedWho(t *testing.T) {
	for mask := range byte(1 << api.Kinds) {
		s := mustNew(t, 2, 1)
		full := []api.Comp{pos(1, 2), vel(3, 4), life(0), body(1, 2, 3), tag(1, 2, 3), spawn(4, 0, 5)}
		want := []api.Comp{pos(1, 2), vel(3, 4), life(0), body(1, 2, 3), tag(1, 2, 3), spawn(4, 3, 5)}
		both := mask&33 == 33
		if !both {
			want = slices.Clone(full)
		}
		lacks := func(x api.Comp) bool { return mask>>x.Kind&1 == 0 }
		full, want = slices.DeleteFunc(full, lacks), slices.DeleteFunc(want, lacks)
		mustSpawn(t, s, full...)
		born := systems.Breed(s)
		if both {
			mustTell(t, "Breed", born, b)
			mustHave(t, s, ent(a, want...), ent(b, pos(1, 2), vel(384, 192), life(80), body(5, 100, 6)))
		} else {
			mustTell(t, "Breed", born)
			mustHave(t, s, ent(a, want...))
		}
	}
}

// Without room nothing happens: left stays 0, and it begets as soon as there is room. Who only waits goes on.
func TestBreedFull(t *testing.T) {
	s := mustNew(t, 2, 1)
	mustSpawn(t, s, pos(0, 0), spawn(9, 0, 0))
	mustSpawn(t, s, pos(1, 1), spawn(9, 2, 1))
	mustTell(t, "Breed", systems.Breed(s))
	mustHave(t, s, ent(a, pos(0, 0), spawn(9, 0, 0)), ent(b, pos(1, 1), spawn(9, 1, 1)))
	must(t, s.Despawn(b))
	mustTell(t, "Breed", systems.Breed(s), b+later)
	mustHave(t, s, ent(a, pos(0, 0), spawn(9, 8, 0)), ent(b+later, pos(0, 0), vel(64, 32), life(30), body(0, 100, 1)))
}

// A store that becomes full while they beget: the least slots have gone first.
func TestBreedBecomesFull(t *testing.T) {
	s := mustNew(t, 6, 1)
	mustSpawn(t, s, pos(0, 0), spawn(7, 0, 0))
	mustSpawn(t, s, pos(1, 0), spawn(7, 0, 1))
	mustSpawn(t, s, pos(2, 0), spawn(7, 0, 2))
	mustSpawn(t, s, pos(3, 0), spawn(7, 4, 3))
	mustTell(t, "Breed", systems.Breed(s), e, f)
	mustHave(t, s,
		ent(a, pos(0, 0), spawn(7, 6, 0)), ent(b, pos(1, 0), spawn(7, 6, 1)), ent(c, pos(2, 0), spawn(7, 0, 2)), ent(d, pos(3, 0), spawn(7, 3, 3)),
		ent(e, pos(0, 0), vel(64, 32), life(30), body(0, 100, 1)), ent(f, pos(1, 0), vel(-128, 64), life(40), body(1, 100, 2)))
}

// A slot is full for good when its last generation is gone.
func TestBreedLastGeneration(t *testing.T) {
	s := mustNew(t, 2, api.MaxGen)
	parent := mustSpawn(t, s, pos(0, 0), spawn(1, 0, 0))
	must(t, s.Despawn(mustSpawn(t, s)))
	mustTell(t, "Breed", systems.Breed(s))
	mustHave(t, s, ent(parent, pos(0, 0), spawn(1, 0, 0)))
}

// Children take freed slots, the last one first, and are told in the order in which they came, not by their numbers.
func TestBreedTellsInOrder(t *testing.T) {
	s := mustNew(t, 9, 1)
	for range 3 {
		mustSpawn(t, s)
	}
	mustSpawn(t, s, pos(5, 5), spawn(2, 0, 0))
	mustSpawn(t, s, pos(6, 6), spawn(2, 0, 0))
	mustSpawn(t, s, pos(7, 7), spawn(2, 0, 0))
	must(t, s.Despawn(c))
	must(t, s.Despawn(a))
	mustTell(t, "Breed", systems.Breed(s), a+later, c+later, 1030)
	mustHave(t, s,
		ent(a+later, pos(5, 5), vel(-64, 32), life(30), body(0, 100, 1)), ent(b), ent(c+later, pos(6, 6), vel(64, 32), life(30), body(0, 100, 1)),
		ent(d, pos(5, 5), spawn(2, 1, 0)), ent(e, pos(6, 6), spawn(2, 1, 0)), ent(f, pos(7, 7), spawn(2, 1, 0)),
		ent(1030, pos(7, 7), vel(-64, 32), life(30), body(0, 100, 1)))
}

// A child doesn't beget: neither in the tick in which it came, nor later.
func TestChildrenDontBeget(t *testing.T) {
	s := mustNew(t, 9, 1)
	mustSpawn(t, s, pos(0, 0), spawn(1, 0, 15))
	for i := range api.ID(8) {
		mustTell(t, "Breed", systems.Breed(s), b+i)
	}
	mustTell(t, "Breed", systems.Breed(s))
	// A child that is given a spawn begets as anybody else does.
	must(t, s.Despawn(f))
	must(t, s.Despawn(e))
	must(t, s.Add(b, spawn(1, 0, 0)))
	mustTell(t, "Breed", systems.Breed(s), e+later, f+later)
}

// Child, P14.4.

func TestChild(t *testing.T) {
	for shape := range int32(16) {
		for _, at := range []api.Comp{pos(0, 0), pos(west, east), pos(east, west), pos(-1, 1)} {
			for _, every := range []int32{1, 9, 255} {
				for _, left := range []int32{0, 8, 254} {
					want := []api.Comp{at, vel(64*shape+64, 32*shape+32), life(30 + 10*shape), body(shape, 100, shape+1)}
					if got := systems.Child(spawn(every, left, shape), at, false); !slices.Equal(got, want) || schema.List(got) != api.OK {
						t.Fatalf("Child(shape %d, %v) = %v, not %v", shape, at, got, want)
					}
					want[1].F[0] = -want[1].F[0]
					if got := systems.Child(spawn(every, left, shape), at, true); !slices.Equal(got, want) || schema.List(got) != api.OK {
						t.Fatalf("Child(shape %d, %v, odd) = %v, not %v", shape, at, got, want)
					}
				}
			}
		}
	}
}

// Of other components nothing is promised but that it ends.
func TestChildOfAnything(t *testing.T) {
	ends := []int32{math.MinInt32, -1, 0, 15, 16, math.MaxInt32}
	for kind := range 256 {
		for _, x := range ends {
			for _, y := range ends {
				systems.Child(comp(byte(kind), x, y, x), comp(byte(255-kind), y, x, y), kind%2 == 0)
			}
		}
	}
}

func TestChildIsNewMemory(t *testing.T) {
	one := systems.Child(spawn(5, 0, 1), pos(1, 2), false)
	two := systems.Child(spawn(5, 0, 1), pos(1, 2), false)
	one = one[:cap(one)]
	for i := range one {
		one[i] = comp(9, 9, 9, 9)
	}
	if want := []api.Comp{pos(1, 2), vel(128, 64), life(40), body(1, 100, 2)}; !slices.Equal(two, want) {
		t.Fatalf("Child = %v, not %v", two, want)
	}
}

func TestNil(t *testing.T) {
	mustTell(t, "Move", systems.Move(nil))
	mustTell(t, "Age", systems.Age(nil))
	mustTell(t, "Breed", systems.Breed(nil))
}

func TestEmpty(t *testing.T) {
	s := mustNew(t, 1, 1)
	mustTell(t, "Move", systems.Move(s))
	mustTell(t, "Age", systems.Age(s))
	mustTell(t, "Breed", systems.Breed(s))
	mustHave(t, s)
}

// What is told is the caller's: later calls don't change it, and writing over it changes nothing.
func TestToldIsNewMemory(t *testing.T) {
	s := mustNew(t, 20, 1)
	mustSpawn(t, s, pos(0, 0), vel(1, 1), spawn(1, 0, 0))
	mustSpawn(t, s, life(0))
	mustSpawn(t, s, life(1))
	calls := []func(*store.Store) []api.ID{systems.Move, systems.Age, systems.Breed}
	var told, kept [][]api.ID
	for range 3 {
		for _, call := range calls {
			l := call(s)
			told, kept = append(told, l), append(kept, slices.Clone(l))
		}
	}
	for i := range told {
		if !slices.Equal(told[i], kept[i]) {
			t.Fatalf("what was told is %v, and was %v", told[i], kept[i])
		}
	}
	was, groups := all(s), s.Groups()
	for _, l := range told {
		l = l[:cap(l)]
		for i := range l {
			l[i] = 7
		}
	}
	mustHave(t, s, was...)
	if !sameGroups(s.Groups(), groups) {
		t.Fatalf("groups %v, and they were %v", s.Groups(), groups)
	}
}

// model is a store once more, as plainly as can be: what each entity has by kinds, and the numbers of layer 7.
type model struct {
	ids  *slots.Slots
	ents map[api.ID]map[byte]api.Comp
}

func newModel(t *testing.T, n, first int) *model {
	t.Helper()
	ids, e := slots.New(n, first)
	must(t, e)
	return &model{ids, map[api.ID]map[byte]api.Comp{}}
}

func (m *model) spawn(l []api.Comp) (api.ID, bool) {
	id, e := m.ids.Take()
	if e != api.OK {
		return 0, false
	}
	m.ents[id] = map[byte]api.Comp{}
	for _, x := range l {
		m.ents[id][x.Kind] = x
	}
	return id, true
}

func (m *model) despawn(id api.ID) {
	m.ids.Free(id)
	delete(m.ents, id)
}

func (m *model) has(id api.ID, kinds ...byte) bool {
	for _, kind := range kinds {
		if _, ok := m.ents[id][kind]; !ok {
			return false
		}
	}
	return true
}

func (m *model) list() []api.Ent {
	var l []api.Ent
	for _, id := range m.ids.List() {
		x := api.Ent{ID: id}
		for _, kind := range slices.Sorted(maps.Keys(m.ents[id])) {
			x.Comps = append(x.Comps, m.ents[id][kind])
		}
		l = append(l, x)
	}
	return l
}

func (m *model) move() []api.ID {
	var moved []api.ID
	for _, id := range m.ids.List() {
		if !m.has(id, api.Pos, api.Vel) {
			continue
		}
		at, by := m.ents[id][api.Pos], m.ents[id][api.Vel]
		was := at
		at.F[0] += by.F[0]
		at.F[1] += by.F[1]
		for i := range 2 {
			if at.F[i] > east || at.F[i] < west {
				at.F[i] = map[bool]int32{true: east, false: west}[at.F[i] > east]
				if by.F[i] == -32768 {
					by.F[i] = 32767
				} else {
					by.F[i] = -by.F[i]
				}
			}
		}
		m.ents[id][api.Pos], m.ents[id][api.Vel] = at, by
		if at != was {
			moved = append(moved, id)
		}
	}
	return moved
}

func (m *model) age() []api.ID {
	var gone []api.ID
	for _, id := range m.ids.List() {
		if !m.has(id, api.Life) {
			continue
		}
		if left := m.ents[id][api.Life].F[0]; left == 0 {
			m.despawn(id)
			gone = append(gone, id)
		} else {
			m.ents[id][api.Life] = life(left - 1)
		}
	}
	return gone
}

func (m *model) breed() []api.ID {
	var born []api.ID
	for _, id := range m.ids.List() {
		if !m.has(id, api.Spawn, api.Pos) {
			continue
		}
		sp := m.ents[id][api.Spawn].F
		if sp[1] != 0 {
			m.ents[id][api.Spawn] = spawn(sp[0], sp[1]-1, sp[2])
			continue
		}
		dx := 64 * (sp[2] + 1)
		if id%2 == 1 {
			dx = -dx
		}
		child, ok := m.spawn([]api.Comp{m.ents[id][api.Pos], vel(dx, 32*(sp[2]+1)), life(30 + 10*sp[2]), body(sp[2], 100, 1+sp[2])})
		if ok {
			born = append(born, child)
			m.ents[id][api.Spawn] = spawn(sp[0], sp[0]-1, sp[2])
		}
	}
	return born
}

// throwEnt is components of any make; places and speeds are such that the world's ends are near, lives and times short.
func throwEnt(d *dice) []api.Comp {
	near := func() int32 {
		return []int32{west, west + 20000, -30000, 0, 30000, east - 20000, east}[d.throw(7)]
	}
	fast := func() int32 { return []int32{-32768, -32767, -16, 0, 1, 9000, 32767}[d.throw(7)] }
	n := func(n int) int32 { return int32(d.throw(n)) }
	full := []api.Comp{pos(near(), near()), vel(fast(), fast()), life(n(12)), body(n(16), n(1001), 1+n(100)), tag(n(8), n(256), n(32)), spawn(1+n(6), n(8), n(16))}
	mask := d.throw(1 << api.Kinds)
	return slices.DeleteFunc(full, func(x api.Comp) bool { return mask>>x.Kind&1 == 0 })
}

// Long scripts against the plain model: entities come and go, and the systems run in any order.
func TestAgainstModel(t *testing.T) {
	for seed := range 30 {
		d := dice(seed)
		n := 1 + d.throw(24)
		first := []int{1, 5, api.MaxGen - 3}[d.throw(3)]
		s, m := mustNew(t, n, first), newModel(t, n, first)
		for range 400 {
			switch d.throw(5) {
			case 0:
				l := throwEnt(&d)
				id, err := s.Spawn(l)
				if want, ok := m.spawn(l); id != want || (err == api.OK) != ok {
					t.Fatalf("seed %d: Spawn = %d, %d", seed, id, err)
				}
			case 1:
				if l := s.List(); len(l) > 0 && d.throw(4) == 0 {
					id := l[d.throw(len(l))]
					must(t, s.Despawn(id))
					m.despawn(id)
				}
			case 2:
				mustTell(t, "Move", systems.Move(s), m.move()...)
			case 3:
				mustTell(t, "Age", systems.Age(s), m.age()...)
			case 4:
				mustTell(t, "Breed", systems.Breed(s), m.breed()...)
			}
			mustHave(t, s, m.list()...)
			if s.Room() != m.ids.Room() {
				t.Fatalf("seed %d: room %d, not %d", seed, s.Room(), m.ids.Room())
			}
		}
	}
}

// Nobody but who comes or goes is put elsewhere in its table: Move touches no row, and Age and Breed no others'.
func TestRowsStay(t *testing.T) {
	s, twin := mustNew(t, 12, 1), mustNew(t, 12, 1)
	for _, x := range []*store.Store{s, twin} {
		for i := range int32(6) {
			mustSpawn(t, x, pos(i, i), vel(1, 1), life(i%2), spawn(2, i%3, 1))
		}
		must(t, x.Despawn(b))
		mustSpawn(t, x, pos(0, 0), vel(1, 1), life(9), spawn(2, 1, 1))
	}
	systems.Move(s)
	if !sameGroups(s.Groups(), twin.Groups()) {
		t.Fatalf("behind Move: %v, not %v", s.Groups(), twin.Groups())
	}
	for _, id := range systems.Age(s) {
		must(t, twin.Despawn(id))
	}
	if !sameGroups(s.Groups(), twin.Groups()) {
		t.Fatalf("behind Age: %v, not %v", s.Groups(), twin.Groups())
	}
	for _, id := range systems.Breed(s) {
		x, _ := s.Ent(id)
		if got := mustSpawn(t, twin, x.Comps...); got != id {
			t.Fatalf("the child is %d, not %d", id, got)
		}
	}
	if !sameGroups(s.Groups(), twin.Groups()) {
		t.Fatalf("behind Breed: %v, not %v", s.Groups(), twin.Groups())
	}
}
