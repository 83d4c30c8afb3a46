package store_test

import (
	"math"
	"slices"
	"testing"

	"pinnace/api"
	"pinnace/schema"
	"pinnace/slots"
	"pinnace/store"
)

const (
	a api.ID = 1024
	b api.ID = 1025
	c api.ID = 1026
	d api.ID = 1027
)

const (
	posMake  = 1 << api.Pos
	lifeMake = 1 << api.Life
	bothMake = posMake | lifeMake
	allKinds = 1<<api.Kinds - 1
)

func comp(kind byte, f ...int32) api.Comp {
	x := api.Comp{Kind: kind}
	copy(x.F[:], f)
	return x
}

func life(left int32) api.Comp { return comp(api.Life, left) }

func pos(x, y int32) api.Comp { return comp(api.Pos, x, y) }

// sample is components of a make, whose fields hang on n (0 to 30) and differ from kind to kind.
func sample(mask byte, n int32) []api.Comp {
	all := []api.Comp{
		pos(-500000-n, 500000+n), comp(api.Vel, -300-n, 400+n), life(500 + n),
		comp(api.Body, n%16, 600+n, 1+n), comp(api.Tag, n%8, 70+n, 31-n), comp(api.Spawn, 80+n, 90+n, 15-n%16),
	}
	var l []api.Comp
	for kind, x := range all {
		if mask>>kind&1 == 1 {
			l = append(l, x)
		}
	}
	return l
}

func ent(id api.ID, l ...api.Comp) api.Ent { return api.Ent{ID: id, Comps: l} }

func mustNew(t *testing.T, n, first int) *store.Store {
	t.Helper()
	s, e := store.New(n, first)
	if s == nil || e != api.OK {
		t.Fatalf("New(%d, %d) = %v, %d", n, first, s, e)
	}
	return s
}

func mustSpawn(t *testing.T, s *store.Store, want api.ID, l ...api.Comp) {
	t.Helper()
	if id, e := s.Spawn(l); id != want || e != api.OK {
		t.Fatalf("Spawn(%v) = %d, %d, not %d", l, id, e, want)
	}
}

func mustNotSpawn(t *testing.T, s *store.Store, want api.Errno, l ...api.Comp) {
	t.Helper()
	if id, e := s.Spawn(l); id != 0 || e != want {
		t.Fatalf("Spawn(%v) = %d, %d, not 0, %d", l, id, e, want)
	}
}

func must(t *testing.T, e api.Errno) {
	t.Helper()
	if e != api.OK {
		t.Fatalf("error %d", e)
	}
}

// group is what Groups tells of a make, and what its entities have.
type group struct {
	mask byte
	ents []api.Ent
}

func of(mask byte, ents ...api.Ent) group { return group{mask, ents} }

// mustTell asks for everything that s tells of how it stands, and of some that aren't there beside it.
func mustTell(t *testing.T, s *store.Store, room int, want ...group) {
	t.Helper()
	var live []api.ID
	got := s.Groups()
	if len(got) != len(want) {
		t.Fatalf("Groups = %v, not %v", got, want)
	}
	for i, g := range want {
		var ids []api.ID
		for _, x := range g.ents {
			ids = append(ids, x.ID)
			mustHave(t, s, x)
		}
		if got[i].Mask != g.mask || !slices.Equal(got[i].IDs, ids) {
			t.Fatalf("Groups = %v, not %v", got, want)
		}
		live = append(live, ids...)
	}
	slices.SortFunc(live, func(x, y api.ID) int { return int(x%1024) - int(y%1024) })
	if l := s.List(); !slices.Equal(l, live) {
		t.Fatalf("List = %d, not %d", l, live)
	}
	if s.Len() != len(live) || s.Room() != room {
		t.Fatalf("Len, Room = %d, %d, not %d, %d", s.Len(), s.Room(), len(live), room)
	}
	for _, id := range live {
		mustBeDead(t, s, id-1024)
		mustBeDead(t, s, id+1024)
	}
	mustBeDead(t, s, 0)
}

// mustHave asks of an entity for each of its components, and for those that it hasn't.
func mustHave(t *testing.T, s *store.Store, want api.Ent) {
	t.Helper()
	if !s.Live(want.ID) {
		t.Fatalf("%d isn't live", want.ID)
	}
	if x, e := s.Ent(want.ID); e != api.OK || x.ID != want.ID || !slices.Equal(x.Comps, want.Comps) {
		t.Fatalf("Ent(%d) = %v, %d, not %v", want.ID, x, e, want)
	}
	at := 0
	for kind := range byte(api.Kinds + 2) {
		v, e := s.Get(want.ID, kind)
		if at < len(want.Comps) && want.Comps[at].Kind == kind {
			if v != want.Comps[at] || e != api.OK {
				t.Fatalf("Get(%d, %d) = %v, %d, not %v", want.ID, kind, v, e, want.Comps[at])
			}
			at++
		} else if v != (api.Comp{}) || e != api.ErrNone {
			t.Fatalf("Get(%d, %d) = %v, %d, not ErrNone", want.ID, kind, v, e)
		}
	}
}

// mustBeDead asks for an entity that there isn't by the calls that change nothing anyway.
func mustBeDead(t *testing.T, s *store.Store, id api.ID) {
	t.Helper()
	if s.Live(id) {
		t.Fatalf("%d is live", id)
	}
	if x, e := s.Ent(id); x.ID != 0 || len(x.Comps) != 0 || e != api.ErrDead {
		t.Fatalf("Ent(%d) = %v, %d, not ErrDead", id, x, e)
	}
	for _, kind := range []byte{api.Pos, api.Life, api.Kinds, 255} {
		if v, e := s.Get(id, kind); v != (api.Comp{}) || e != api.ErrDead {
			t.Fatalf("Get(%d, %d) = %v, %d, not ErrDead", id, kind, v, e)
		}
	}
}

// mustRefuse tries to change an entity that there isn't by each call.
func mustRefuse(t *testing.T, s *store.Store, id api.ID) {
	t.Helper()
	mustBeDead(t, s, id)
	if e := s.Despawn(id); e != api.ErrDead {
		t.Fatalf("Despawn(%d) = %d, not ErrDead", id, e)
	}
	for kind := range byte(api.Kinds) {
		v := sample(1<<kind, 3)[0]
		if e := s.Set(id, v); e != api.ErrDead {
			t.Fatalf("Set(%d, %v) = %d, not ErrDead", id, v, e)
		}
		if e := s.Add(id, v); e != api.ErrDead {
			t.Fatalf("Add(%d, %v) = %d, not ErrDead", id, v, e)
		}
	}
	for kind := range 256 {
		if e := s.Remove(id, byte(kind)); e != api.ErrDead {
			t.Fatalf("Remove(%d, %d) = %d, not ErrDead", id, kind, e)
		}
	}
}

func TestNew(t *testing.T) {
	for _, n := range []int{1, 2, 1023, 1024} {
		for _, first := range []int{1, 2, 4194302, 4194303} {
			s := mustNew(t, n, first)
			mustTell(t, s, n)
			mustSpawn(t, s, api.ID(first)*1024)
		}
	}
}

func TestNewOfWhatThereIsNot(t *testing.T) {
	refuse := func(n, first int) {
		t.Helper()
		if s, e := store.New(n, first); s != nil || e != api.ErrArg {
			t.Errorf("New(%d, %d) = %v, %d, not nil, ErrArg", n, first, s, e)
		}
	}
	for _, n := range []int{0, -1, 1025, math.MinInt, math.MinInt32, math.MaxInt32, math.MaxInt, 1<<32 + 1} {
		refuse(n, 1)
		refuse(n, api.MaxGen)
		refuse(n, 0)
		refuse(n, api.MaxGen+1)
	}
	for _, first := range []int{0, -1, 4194304, math.MinInt, math.MinInt32, math.MaxInt32, math.MaxInt, 1<<32 + 1} {
		refuse(1, first)
		refuse(api.MaxSlots, first)
	}
}

func TestExample(t *testing.T) {
	s := mustNew(t, 3, 1)
	mustSpawn(t, s, a, pos(1, 1))
	mustSpawn(t, s, b, pos(2, 2))
	mustSpawn(t, s, c, pos(3, 3))
	must(t, s.Add(a, life(4)))
	mustTell(t, s, 0,
		of(posMake, ent(c, pos(3, 3)), ent(b, pos(2, 2))),
		of(bothMake, ent(a, pos(1, 1), life(4))))
	must(t, s.Remove(a, api.Life))
	mustTell(t, s, 0, of(posMake, ent(c, pos(3, 3)), ent(b, pos(2, 2)), ent(a, pos(1, 1))))
}

// The numbers of Slots: what was freed last goes first, then the least that never was in use.
func TestNumbersAreThoseOfSlots(t *testing.T) {
	s := mustNew(t, 5, 1)
	for id := a; id <= d; id++ {
		mustSpawn(t, s, id, life(int32(id)))
	}
	must(t, s.Despawn(c))
	must(t, s.Despawn(a))
	must(t, s.Despawn(d))
	mustTell(t, s, 4, of(lifeMake, ent(b, life(1025))))
	mustSpawn(t, s, d+1024, life(1))
	mustSpawn(t, s, a+1024, life(2))
	must(t, s.Despawn(b))
	mustSpawn(t, s, b+1024, pos(3, 3))
	mustSpawn(t, s, c+1024, life(4))
	mustSpawn(t, s, d+1, life(5))
	mustNotSpawn(t, s, api.ErrFull, life(6))
	// The last row took the place of b's.
	mustTell(t, s, 0,
		of(posMake, ent(b+1024, pos(3, 3))),
		of(lifeMake, ent(a+1024, life(2)), ent(d+1024, life(1)), ent(c+1024, life(4)), ent(d+1, life(5))))
}

func TestOneSlot(t *testing.T) {
	s := mustNew(t, 1, 1)
	for gen := range api.ID(50) {
		id := a + gen*1024
		mask := byte(gen % 64)
		mustSpawn(t, s, id, sample(mask, 1)...)
		mustTell(t, s, 0, of(mask, ent(id, sample(mask, 1)...)))
		mustNotSpawn(t, s, api.ErrFull, life(1))
		mustRefuse(t, s, b)
		must(t, s.Despawn(id))
		mustRefuse(t, s, id)
		mustTell(t, s, 1)
	}
}

func TestAsManyAsThereMayBe(t *testing.T) {
	s := mustNew(t, api.MaxSlots, api.MaxGen)
	first := api.ID(math.MaxUint32 - 1023)
	want := make([]group, 64)
	for slot := range api.ID(api.MaxSlots) {
		mask := byte(slot * 37 % 64)
		x := ent(first+slot, sample(mask, int32(slot%31))...)
		mustSpawn(t, s, x.ID, x.Comps...)
		want[mask].mask = mask
		want[mask].ents = append(want[mask].ents, x)
	}
	mustTell(t, s, 0, want...)
	mustNotSpawn(t, s, api.ErrFull)
	mustNotSpawn(t, s, api.ErrFull, sample(allKinds, 0)...)
	mustTell(t, s, 0, want...)
	must(t, s.Despawn(math.MaxUint32))
	mustRefuse(t, s, math.MaxUint32)
	// Its generation was the last one: there is room no more than ahead of it.
	mustNotSpawn(t, s, api.ErrFull)
	if s.Len() != 1023 || s.Room() != 0 {
		t.Fatal(s.Len(), s.Room())
	}
}

func TestFullAndNoLongerFull(t *testing.T) {
	s := mustNew(t, 2, 1)
	mustSpawn(t, s, a, life(1))
	mustSpawn(t, s, b, life(2))
	mustNotSpawn(t, s, api.ErrFull, life(3))
	mustTell(t, s, 0, of(lifeMake, ent(a, life(1)), ent(b, life(2))))
	// A full store still changes what it has.
	must(t, s.Add(a, pos(1, 1)))
	must(t, s.Set(b, life(9)))
	must(t, s.Despawn(a))
	mustTell(t, s, 1, of(lifeMake, ent(b, life(9))))
	mustSpawn(t, s, a+1024, life(3))
	mustNotSpawn(t, s, api.ErrFull, life(4))
	mustTell(t, s, 0, of(lifeMake, ent(b, life(9)), ent(a+1024, life(3))))
}

func TestGenerationsUsedUp(t *testing.T) {
	top := api.ID(math.MaxUint32 - 1023)
	s := mustNew(t, 2, api.MaxGen-1)
	mustSpawn(t, s, top-1024, life(1))
	must(t, s.Despawn(top-1024))
	mustTell(t, s, 2)
	mustSpawn(t, s, top, life(2))
	must(t, s.Add(top, pos(2, 2)))
	must(t, s.Despawn(top))
	mustRefuse(t, s, top)
	mustTell(t, s, 1)
	mustSpawn(t, s, top-1023, life(3))
	mustNotSpawn(t, s, api.ErrFull, life(4))
	must(t, s.Despawn(top-1023))
	mustSpawn(t, s, top+1, life(5))
	mustTell(t, s, 0, of(lifeMake, ent(top+1, life(5))))
	must(t, s.Despawn(top+1))
	mustTell(t, s, 0)
	mustNotSpawn(t, s, api.ErrFull, life(6))
	for _, id := range []api.ID{top, top + 1, top - 1024, top - 1023} {
		mustRefuse(t, s, id)
	}
	mustTell(t, s, 0)
}

func TestMakeOfNothing(t *testing.T) {
	s := mustNew(t, 4, 1)
	mustSpawn(t, s, a)
	if id, e := s.Spawn([]api.Comp{}); id != b || e != api.OK {
		t.Fatal(id, e)
	}
	mustSpawn(t, s, c, life(1))
	mustTell(t, s, 1, of(0, ent(a), ent(b)), of(lifeMake, ent(c, life(1))))
	must(t, s.Remove(c, api.Life))
	mustTell(t, s, 1, of(0, ent(a), ent(b), ent(c)))
	for kind := range byte(api.Kinds) {
		v := sample(1<<kind, 2)[0]
		if e := s.Set(a, v); e != api.ErrNone {
			t.Errorf("Set(%v) = %d, not ErrNone", v, e)
		}
		if e := s.Remove(a, kind); e != api.ErrNone {
			t.Errorf("Remove(%d) = %d, not ErrNone", kind, e)
		}
	}
	mustTell(t, s, 1, of(0, ent(a), ent(b), ent(c)))
	must(t, s.Add(a, pos(1, 2)))
	must(t, s.Despawn(b))
	mustTell(t, s, 2, of(0, ent(c)), of(posMake, ent(a, pos(1, 2))))
}

func TestAllKinds(t *testing.T) {
	s := mustNew(t, 2, 1)
	l := sample(allKinds, 5)
	mustSpawn(t, s, a, l...)
	for kind := range byte(api.Kinds) {
		if e := s.Add(a, sample(1<<kind, 6)[0]); e != api.ErrTwice {
			t.Errorf("Add(%d) = %d, not ErrTwice", kind, e)
		}
	}
	mustTell(t, s, 1, of(allKinds, ent(a, l...)))
	for kind := range byte(api.Kinds) {
		l[kind] = sample(1<<kind, 7)[0]
		must(t, s.Set(a, l[kind]))
		mustTell(t, s, 1, of(allKinds, ent(a, l...)))
	}
	for kind := range byte(api.Kinds) {
		must(t, s.Remove(a, kind))
		l = l[1:]
		mustTell(t, s, 1, of(allKinds>>(kind+1)<<(kind+1), ent(a, l...)))
	}
}

// From every make, each kind is added where it isn't, set and taken away where it is; two others of the make stay.
func TestEveryMakeAndKind(t *testing.T) {
	for mask := range byte(64) {
		for kind := range byte(api.Kinds) {
			s := mustNew(t, 3, 1)
			x, y, z := ent(a, sample(mask, 1)...), ent(b, sample(mask, 2)...), ent(c, sample(mask, 3)...)
			for _, v := range []api.Ent{x, y, z} {
				mustSpawn(t, s, v.ID, v.Comps...)
			}
			if mask>>kind&1 == 1 {
				mustLose(t, s, mask, kind, x, y, z)
			} else {
				mustGain(t, s, mask, kind, x, y, z)
			}
		}
	}
}

func mustLose(t *testing.T, s *store.Store, mask, kind byte, x, y, z api.Ent) {
	t.Helper()
	v := sample(1<<kind, 9)[0]
	if e := s.Add(a, v); e != api.ErrTwice {
		t.Fatalf("Add(%v) = %d, not ErrTwice", v, e)
	}
	mustTell(t, s, 0, of(mask, x, y, z))
	must(t, s.Set(a, v))
	set := ent(a, sample(mask, 1)...)
	set.Comps[slices.IndexFunc(set.Comps, func(w api.Comp) bool { return w.Kind == kind })] = v
	mustTell(t, s, 0, of(mask, set, y, z))
	must(t, s.Remove(a, kind))
	less := ent(a, sample(mask&^(1<<kind), 1)...)
	mustTell(t, s, 0, of(mask&^(1<<kind), less), of(mask, z, y))
	if e := s.Remove(a, kind); e != api.ErrNone {
		t.Fatalf("Remove(%d) = %d, not ErrNone", kind, e)
	}
	must(t, s.Add(a, v))
	mustTell(t, s, 0, of(mask, z, y, set))
}

func mustGain(t *testing.T, s *store.Store, mask, kind byte, x, y, z api.Ent) {
	t.Helper()
	v := sample(1<<kind, 1)[0]
	if e := s.Set(a, v); e != api.ErrNone {
		t.Fatalf("Set(%v) = %d, not ErrNone", v, e)
	}
	if e := s.Remove(a, kind); e != api.ErrNone {
		t.Fatalf("Remove(%d) = %d, not ErrNone", kind, e)
	}
	mustTell(t, s, 0, of(mask, x, y, z))
	must(t, s.Add(a, v))
	more := ent(a, sample(mask|1<<kind, 1)...)
	mustTell(t, s, 0, of(mask, z, y), of(mask|1<<kind, more))
	must(t, s.Remove(a, kind))
	mustTell(t, s, 0, of(mask, z, y, x))
}

// Each field at both ends of its range comes back as it was, by whichever call it came in.
func TestEndsOfRanges(t *testing.T) {
	for kind := range byte(api.Kinds) {
		low, high := comp(kind), comp(kind)
		for i := range schema.Count(kind) {
			low.F[i], high.F[i], _ = schema.Range(kind, i)
		}
		s := mustNew(t, 2, 1)
		mustSpawn(t, s, a, low)
		mustSpawn(t, s, b)
		must(t, s.Add(b, high))
		mustTell(t, s, 0, of(1<<kind, ent(a, low), ent(b, high)))
		must(t, s.Set(a, high))
		must(t, s.Set(b, low))
		mustTell(t, s, 0, of(1<<kind, ent(a, high), ent(b, low)))
	}
}

// The three ways out of a make, from each of its places.
func TestLeavingAMake(t *testing.T) {
	x, y, z, w := ent(a, pos(0, 1), life(1)), ent(b, pos(0, 2), life(2)), ent(c, pos(0, 3), life(3)), ent(d, pos(0, 4), life(4))
	all := []api.Ent{x, y, z, w}
	for _, k := range []struct {
		name string
		at   int
		left []api.Ent
	}{
		{"the first", 0, []api.Ent{w, y, z}},
		{"one between", 1, []api.Ent{x, w, z}},
		{"the last but one", 2, []api.Ent{x, y, w}},
		{"the last", 3, []api.Ent{x, y, z}},
	} {
		t.Run(k.name, func(t *testing.T) {
			gone := all[k.at]
			v := comp(api.Tag, 7, 255, 31)

			s := storeOf(t, all)
			must(t, s.Despawn(gone.ID))
			mustRefuse(t, s, gone.ID)
			mustTell(t, s, 1, of(bothMake, k.left...))
			again := ent(gone.ID+1024, pos(9, 9), life(9))
			mustSpawn(t, s, again.ID, again.Comps...)
			mustTell(t, s, 0, of(bothMake, append(slices.Clone(k.left), again)...))

			s = storeOf(t, all)
			must(t, s.Add(gone.ID, v))
			mustTell(t, s, 0, of(bothMake, k.left...), of(bothMake|1<<api.Tag, ent(gone.ID, append(slices.Clone(gone.Comps), v)...)))
			must(t, s.Remove(gone.ID, api.Tag))
			mustTell(t, s, 0, of(bothMake, append(slices.Clone(k.left), gone)...))

			s = storeOf(t, all)
			must(t, s.Remove(gone.ID, api.Pos))
			mustTell(t, s, 0, of(lifeMake, ent(gone.ID, gone.Comps[1])), of(bothMake, k.left...))
			must(t, s.Add(gone.ID, gone.Comps[0]))
			mustTell(t, s, 0, of(bothMake, append(slices.Clone(k.left), gone)...))
		})
	}
}

func storeOf(t *testing.T, ents []api.Ent) *store.Store {
	t.Helper()
	s := mustNew(t, len(ents), 1)
	for _, x := range ents {
		mustSpawn(t, s, x.ID, x.Comps...)
	}
	return s
}

func TestTheOnlyOneOfAMakeLeaves(t *testing.T) {
	s := mustNew(t, 2, 1)
	for n := range int32(3) {
		id := a + api.ID(n)*1024
		mustSpawn(t, s, id, life(n))
		mustTell(t, s, 1, of(lifeMake, ent(id, life(n))))
		must(t, s.Add(id, pos(n, n)))
		mustTell(t, s, 1, of(bothMake, ent(id, pos(n, n), life(n))))
		must(t, s.Remove(id, api.Life))
		mustTell(t, s, 1, of(posMake, ent(id, pos(n, n))))
		must(t, s.Despawn(id))
		mustTell(t, s, 2)
	}
}

// A make to which somebody comes while others are there already; and Set moves nobody.
func TestBehindAllOthers(t *testing.T) {
	s := mustNew(t, 4, 1)
	mustSpawn(t, s, a, life(1))
	mustSpawn(t, s, b, pos(2, 2))
	mustSpawn(t, s, c, pos(3, 3), life(3))
	mustSpawn(t, s, d, pos(4, 4), life(4))
	must(t, s.Add(b, life(2)))
	must(t, s.Add(a, pos(1, 1)))
	want := of(bothMake, ent(c, pos(3, 3), life(3)), ent(d, pos(4, 4), life(4)), ent(b, pos(2, 2), life(2)), ent(a, pos(1, 1), life(1)))
	mustTell(t, s, 0, want)
	for row, x := range want.ents {
		must(t, s.Set(x.ID, life(70)))
		x.Comps[1] = life(70)
		mustTell(t, s, 0, want)
		must(t, s.Set(x.ID, pos(-8, int32(row))))
		must(t, s.Set(x.ID, pos(-8, int32(row))))
		x.Comps[0] = pos(-8, int32(row))
		mustTell(t, s, 0, want)
	}
}

// A slot's next entity has nothing of the one that had it ahead.
func TestSlotTakenAgain(t *testing.T) {
	s := mustNew(t, 2, 1)
	mustSpawn(t, s, a, sample(allKinds, 1)...)
	mustSpawn(t, s, b, life(2))
	must(t, s.Despawn(a))
	mustSpawn(t, s, a+1024, life(3))
	mustRefuse(t, s, a)
	mustTell(t, s, 0, of(lifeMake, ent(b, life(2)), ent(a+1024, life(3))))
	must(t, s.Despawn(a+1024))
	mustSpawn(t, s, a+2048)
	mustRefuse(t, s, a)
	mustRefuse(t, s, a+1024)
	mustTell(t, s, 0, of(0, ent(a+2048)), of(lifeMake, ent(b, life(2))))
}

func TestSpawnErrors(t *testing.T) {
	p, l := pos(1, 2), life(3)
	for _, w := range []struct {
		name string
		l    []api.Comp
		want api.Errno
	}{
		{"no such kind", []api.Comp{comp(api.Kinds)}, api.ErrArg},
		{"no such kind, the greatest, behind others", []api.Comp{p, l, comp(255)}, api.ErrArg},
		{"a field that the kind hasn't", []api.Comp{p, comp(api.Life, 3, 1)}, api.ErrForm},
		{"outside, above", []api.Comp{p, life(4096)}, api.ErrRange},
		{"outside, below, in the first", []api.Comp{pos(-api.Far-1, 0), l}, api.ErrRange},
		{"below one", []api.Comp{comp(api.Spawn, 0, 0, 0)}, api.ErrRange},
		{"falling", []api.Comp{l, p}, api.ErrForm},
		{"twice the same kind", []api.Comp{p, p}, api.ErrForm},
		{"twice the same, behind another", []api.Comp{p, l, l}, api.ErrForm},
		{"outside ahead of no such kind", []api.Comp{pos(api.Far, 0), comp(api.Kinds)}, api.ErrRange},
		{"outside ahead of falling", []api.Comp{life(-1), p}, api.ErrRange},
		{"falling, and outside", []api.Comp{l, pos(api.Far, 0)}, api.ErrRange},
		{"falling ahead of no such kind", []api.Comp{l, p, comp(api.Kinds)}, api.ErrForm},
	} {
		t.Run(w.name, func(t *testing.T) {
			s := mustNew(t, 2, 1)
			mustNotSpawn(t, s, w.want, w.l...)
			mustTell(t, s, 2)
			mustSpawn(t, s, a, p, l)
			mustNotSpawn(t, s, w.want, w.l...)
			mustTell(t, s, 1, of(bothMake, ent(a, p, l)))
			// What was refused has used up no number.
			mustSpawn(t, s, b, l)
			// What is wrong with the list goes ahead of a full store.
			mustNotSpawn(t, s, w.want, w.l...)
			mustTell(t, s, 0, of(lifeMake, ent(b, l)), of(bothMake, ent(a, p, l)))
			must(t, s.Despawn(a))
			mustNotSpawn(t, s, w.want, w.l...)
			mustTell(t, s, 1, of(lifeMake, ent(b, l)))
			mustSpawn(t, s, a+1024, p)
		})
	}
}

// some is a store of which slot 0 is of its second generation, slot 1 is freed, slot 2 is in use, slot 3 never was.
func some(t *testing.T) *store.Store {
	t.Helper()
	s := mustNew(t, 4, 1)
	mustSpawn(t, s, a, pos(9, 9))
	must(t, s.Despawn(a))
	mustSpawn(t, s, a+1024, life(1))
	mustSpawn(t, s, b, life(2))
	mustSpawn(t, s, c, pos(3, 3), life(3))
	must(t, s.Despawn(b))
	return s
}

func mustBeSome(t *testing.T, s *store.Store) {
	t.Helper()
	mustTell(t, s, 2, of(lifeMake, ent(a+1024, life(1))), of(bothMake, ent(c, pos(3, 3), life(3))))
}

func TestIDsThatAreNone(t *testing.T) {
	s := some(t)
	for _, id := range []api.ID{
		0, 1, 2, 3, 1023, // no generation
		a, a + 2048, // slot 0: no longer, not yet
		b, b + 1024, // slot 1: no longer, not yet
		c + 1024, d, d + 1024, // not yet, never
		d + 1, a + 1024 + 4, 2047, 1024 + 1023, // slots that there are not
		math.MaxUint32, math.MaxUint32 - 1023, math.MaxInt32 + 1, 1<<31 + a,
	} {
		mustRefuse(t, s, id)
		mustBeSome(t, s)
	}
	mustSpawn(t, s, b+1024, life(5))
	mustSpawn(t, s, d, life(6))
	mustNotSpawn(t, s, api.ErrFull)
}

func TestIDsOfNoneSpawned(t *testing.T) {
	for _, n := range []int{1, api.MaxSlots} {
		s := mustNew(t, n, 1)
		for _, id := range []api.ID{0, 1, a, b, 2047, 2048, math.MaxUint32} {
			mustRefuse(t, s, id)
		}
		mustTell(t, s, n)
		mustSpawn(t, s, a)
	}
}

func TestSetErrors(t *testing.T) {
	live, gone, never := a+1024, b, d
	for _, w := range []struct {
		name string
		id   api.ID
		v    api.Comp
		want api.Errno
	}{
		{"no such kind", live, comp(api.Kinds), api.ErrArg},
		{"no such kind, and fields", live, comp(255, 1, 2, 3), api.ErrArg},
		{"a field that the kind hasn't", live, comp(api.Life, 3, 0, 1), api.ErrForm},
		{"a stray field, and outside", live, comp(api.Life, 4096, 1), api.ErrForm},
		{"outside, below", live, life(-1), api.ErrRange},
		{"outside, above", live, life(4096), api.ErrRange},
		{"gone", gone, life(3), api.ErrDead},
		{"of an earlier generation", a, life(3), api.ErrDead},
		{"never there", never, life(3), api.ErrDead},
		{"not of its kinds", live, pos(1, 1), api.ErrNone},
		{"no such kind, never there", never, comp(255), api.ErrArg},
		{"a stray field, gone", gone, comp(api.Life, 3, 1), api.ErrForm},
		{"outside, gone", gone, life(4096), api.ErrRange},
		{"outside, of an earlier generation", a, pos(api.Far, 0), api.ErrRange},
		{"outside, not of its kinds", live, pos(api.Far, 0), api.ErrRange},
		{"a stray field, not of its kinds", live, comp(api.Pos, 0, 0, 1), api.ErrForm},
		{"gone, not of its kinds", gone, pos(1, 1), api.ErrDead},
		{"never there, not of its kinds", never, pos(1, 1), api.ErrDead},
	} {
		s := some(t)
		if e := s.Set(w.id, w.v); e != w.want {
			t.Errorf("%s: Set = %d, not %d", w.name, e, w.want)
		}
		mustBeSome(t, s)
	}
}

func TestAddErrors(t *testing.T) {
	live, gone, never := a+1024, b, d
	for _, w := range []struct {
		name string
		id   api.ID
		v    api.Comp
		want api.Errno
	}{
		{"no such kind", live, comp(api.Kinds), api.ErrArg},
		{"no such kind, and fields", live, comp(255, 1, 2, 3), api.ErrArg},
		{"a field that the kind hasn't", live, comp(api.Pos, 0, 0, 1), api.ErrForm},
		{"outside", live, pos(0, api.Far), api.ErrRange},
		{"gone", gone, pos(3, 3), api.ErrDead},
		{"of an earlier generation", a, pos(3, 3), api.ErrDead},
		{"never there", never, pos(3, 3), api.ErrDead},
		{"has one", live, life(7), api.ErrTwice},
		{"has the same", live, life(1), api.ErrTwice},
		{"has one of two", c, pos(3, 3), api.ErrTwice},
		{"no such kind, never there", never, comp(255), api.ErrArg},
		{"a stray field, gone", gone, comp(api.Pos, 3, 1, 1), api.ErrForm},
		{"outside, of an earlier generation", a, pos(-api.Far-1, 0), api.ErrRange},
		{"outside, has one", live, life(4096), api.ErrRange},
		{"a stray field, has one", live, comp(api.Life, 3, 1), api.ErrForm},
		{"gone, had one", gone, life(2), api.ErrDead},
		{"of an earlier generation, the later one has one", a, life(2), api.ErrDead},
	} {
		s := some(t)
		if e := s.Add(w.id, w.v); e != w.want {
			t.Errorf("%s: Add = %d, not %d", w.name, e, w.want)
		}
		mustBeSome(t, s)
	}
}

func TestGetAndRemoveErrors(t *testing.T) {
	live, gone, never := a+1024, b, d
	for _, w := range []struct {
		id   api.ID
		kind byte
		want api.Errno
	}{
		{live, api.Pos, api.ErrNone}, {live, api.Vel, api.ErrNone}, {live, api.Spawn, api.ErrNone},
		{live, api.Kinds, api.ErrNone}, {live, api.Life + 8, api.ErrNone}, {live, 255, api.ErrNone},
		{c, api.Vel, api.ErrNone}, {c, api.Kinds, api.ErrNone}, {c, 64, api.ErrNone},
		{gone, api.Life, api.ErrDead}, {gone, api.Pos, api.ErrDead}, {gone, api.Kinds, api.ErrDead},
		{a, api.Pos, api.ErrDead}, {a, api.Life, api.ErrDead}, {a, 255, api.ErrDead},
		{never, api.Life, api.ErrDead}, {never, 255, api.ErrDead}, {0, api.Life, api.ErrDead},
	} {
		s := some(t)
		if v, e := s.Get(w.id, w.kind); v != (api.Comp{}) || e != w.want {
			t.Errorf("Get(%d, %d) = %v, %d, not nothing, %d", w.id, w.kind, v, e, w.want)
		}
		if e := s.Remove(w.id, w.kind); e != w.want {
			t.Errorf("Remove(%d, %d) = %d, not %d", w.id, w.kind, e, w.want)
		}
		mustBeSome(t, s)
	}
}

func TestKindsThatAreNone(t *testing.T) {
	s := mustNew(t, 1, 1)
	l := sample(allKinds, 1)
	mustSpawn(t, s, a, l...)
	for kind := api.Kinds; kind < 256; kind++ {
		if v, e := s.Get(a, byte(kind)); v != (api.Comp{}) || e != api.ErrNone {
			t.Errorf("Get(%d) = %v, %d, not ErrNone", kind, v, e)
		}
		if e := s.Remove(a, byte(kind)); e != api.ErrNone {
			t.Errorf("Remove(%d) = %d, not ErrNone", kind, e)
		}
		for _, e := range []api.Errno{s.Set(a, comp(byte(kind))), s.Add(a, comp(byte(kind)))} {
			if e != api.ErrArg {
				t.Errorf("of kind %d: %d, not ErrArg", kind, e)
			}
		}
	}
	mustTell(t, s, 0, of(allKinds, ent(a, l...)))
}

func TestNil(t *testing.T) {
	var s *store.Store
	for _, l := range [][]api.Comp{nil, {}, {life(1)}, {comp(9)}, {life(5000)}, {life(1), pos(1, 1)}} {
		mustNotSpawn(t, s, api.ErrNone, l...)
	}
	for _, id := range []api.ID{0, a, math.MaxUint32} {
		for _, v := range []api.Comp{life(1), comp(9), life(5000), comp(api.Life, 1, 1)} {
			if e := s.Set(id, v); e != api.ErrNone {
				t.Errorf("Set(%v) = %d", v, e)
			}
			if e := s.Add(id, v); e != api.ErrNone {
				t.Errorf("Add(%v) = %d", v, e)
			}
		}
		for kind := range 256 {
			if v, e := s.Get(id, byte(kind)); v != (api.Comp{}) || e != api.ErrNone {
				t.Errorf("Get(%d) = %v, %d", kind, v, e)
			}
			if e := s.Remove(id, byte(kind)); e != api.ErrNone {
				t.Errorf("Remove(%d) = %d", kind, e)
			}
		}
		if x, e := s.Ent(id); x.ID != 0 || len(x.Comps) != 0 || e != api.ErrNone {
			t.Errorf("Ent = %v, %d", x, e)
		}
		if e := s.Despawn(id); e != api.ErrNone {
			t.Errorf("Despawn = %d", e)
		}
		if s.Live(id) {
			t.Errorf("%d is live", id)
		}
	}
	if len(s.List()) != 0 || s.Len() != 0 || s.Room() != 0 || len(s.Groups()) != 0 {
		t.Error(s.List(), s.Len(), s.Room(), s.Groups())
	}
}

// full is l's memory with its spare room.
func full[T any](l []T) []T { return l[:cap(l)] }

func TestHandedInIsNeitherChangedNorKept(t *testing.T) {
	s := mustNew(t, 3, 1)
	room := make([]api.Comp, 10)
	for i := range room {
		room[i] = comp(200, 1, 2, 3)
	}
	l := append(room[:0], sample(allKinds&^lifeMake, 4)...)
	was := slices.Clone(full(l))
	mustSpawn(t, s, a, l...)
	mustSpawn(t, s, b, l...)
	must(t, s.Add(a, life(8)))
	must(t, s.Remove(b, api.Tag))
	must(t, s.Set(b, pos(6, 6)))
	mustSpawn(t, s, c, l...)
	mustNotSpawn(t, s, api.ErrFull, l...)
	if !slices.Equal(full(l), was) {
		t.Fatalf("what was handed in is %v, not %v", full(l), was)
	}
	clear(full(l))
	mustTell(t, s, 0,
		of(0b101011, ent(b, pos(6, 6), was[1], was[2], was[4])),
		of(0b111011, ent(c, was[:5]...)),
		of(allKinds, ent(a, was[0], was[1], life(8), was[2], was[3], was[4])))
	must(t, s.Add(c, life(8)))
	must(t, s.Remove(c, api.Pos))
	must(t, s.Despawn(b))
	for _, v := range full(l) {
		if v != (api.Comp{}) {
			t.Fatalf("what was handed in was written behind the call: %v", full(l))
		}
	}
}

// spoil writes over all that a store has handed out.
func spoil(t *testing.T, s *store.Store) {
	t.Helper()
	for _, id := range s.List() {
		x, e := s.Ent(id)
		must(t, e)
		for i := range full(x.Comps) {
			full(x.Comps)[i] = comp(99, -1, -1, -1)
		}
	}
	ids := full(s.List())
	for i := range ids {
		ids[i] = 777
	}
	for _, g := range s.Groups() {
		for i := range full(g.IDs) {
			full(g.IDs)[i] = 777
		}
	}
	clear(full(s.Groups()))
}

func TestHandedOutMayBeWrittenOver(t *testing.T) {
	s := mustNew(t, 6, 1)
	mustSpawn(t, s, a, pos(1, 1))
	mustSpawn(t, s, b, pos(2, 2))
	mustSpawn(t, s, c, pos(3, 3), life(3))
	spoil(t, s)
	mustTell(t, s, 3, of(posMake, ent(a, pos(1, 1)), ent(b, pos(2, 2))), of(bothMake, ent(c, pos(3, 3), life(3))))
	must(t, s.Add(a, life(1)))
	spoil(t, s)
	must(t, s.Remove(c, api.Pos))
	spoil(t, s)
	must(t, s.Set(c, life(4)))
	spoil(t, s)
	mustSpawn(t, s, d, life(5))
	spoil(t, s)
	must(t, s.Despawn(b))
	spoil(t, s)
	mustTell(t, s, 3, of(lifeMake, ent(c, life(4)), ent(d, life(5))), of(bothMake, ent(a, pos(1, 1), life(1))))
	mustSpawn(t, s, b+1024, life(6))
	mustTell(t, s, 2, of(lifeMake, ent(c, life(4)), ent(d, life(5)), ent(b+1024, life(6))), of(bothMake, ent(a, pos(1, 1), life(1))))
}

func TestAnswersShareNothing(t *testing.T) {
	s := mustNew(t, 4, 1)
	for n := range int32(4) {
		mustSpawn(t, s, a+api.ID(n), sample(byte(1+n%2), n)...)
	}
	list, groups := s.List(), s.Groups()
	x, _ := s.Ent(a)
	y, _ := s.Ent(a)
	for i := range full(groups[0].IDs) {
		full(groups[0].IDs)[i] = 777
	}
	full(x.Comps)[0] = comp(99)
	if !slices.Equal(list, []api.ID{a, b, c, d}) || !slices.Equal(groups[1].IDs, []api.ID{b, d}) || !slices.Equal(y.Comps, sample(1, 0)) {
		t.Fatalf("one answer wrote over another: %v, %v, %v", list, groups, y)
	}
}

func TestHandedOutDoesNotChange(t *testing.T) {
	s := mustNew(t, 6, 1)
	for n := range int32(4) {
		mustSpawn(t, s, a+api.ID(n), pos(n, 5), life(n))
	}
	list, groups := s.List(), s.Groups()
	x, _ := s.Ent(a)
	v, _ := s.Get(a, api.Life)
	wasList, wasIDs, wasComps := slices.Clone(full(list)), slices.Clone(full(groups[0].IDs)), slices.Clone(full(x.Comps))
	must(t, s.Set(a, life(50)))
	must(t, s.Remove(a, api.Pos))
	must(t, s.Add(a, comp(api.Tag, 1, 1, 1)))
	must(t, s.Despawn(b))
	mustSpawn(t, s, b+1024, pos(7, 7), life(7))
	mustSpawn(t, s, d+1, pos(8, 8), life(8))
	must(t, s.Despawn(a))
	must(t, s.Set(c, pos(6, 6)))
	if !slices.Equal(full(list), wasList) || !slices.Equal(full(groups[0].IDs), wasIDs) || !slices.Equal(full(x.Comps), wasComps) {
		t.Fatalf("changed: %v, %v, %v", full(list), groups, full(x.Comps))
	}
	if v != life(0) || len(groups) != 1 || groups[0].Mask != bothMake {
		t.Fatalf("changed: %v, %v", v, groups)
	}
}

func TestStoresShareNothing(t *testing.T) {
	x, y := mustNew(t, 2, 1), mustNew(t, 2, 1)
	mustSpawn(t, x, a, life(1))
	mustTell(t, y, 2)
	mustSpawn(t, y, a, pos(2, 2))
	mustSpawn(t, y, b, life(3))
	mustTell(t, x, 1, of(lifeMake, ent(a, life(1))))
	must(t, x.Despawn(a))
	mustTell(t, y, 0, of(posMake, ent(a, pos(2, 2))), of(lifeMake, ent(b, life(3))))
}

// What the store embeds gives its callers no calls beside the chapter's: a number that is taken or freed by itself would be one without a row, or a row without one.
func TestNoCallsBesideTheChapters(t *testing.T) {
	var s any = mustNew(t, 1, 1)
	if _, ok := s.(interface{ Take() (api.ID, api.Errno) }); ok {
		t.Error("a store has Take")
	}
	if _, ok := s.(interface{ Free(api.ID) api.Errno }); ok {
		t.Error("a store has Free")
	}
}

// model is a store as the chapter's words have it: a plain list of whole entities for each make, and the numbers of Slots.
type model struct {
	numbers *slots.Slots
	makes   [64][]api.Ent
}

func newModel(n, first int) *model {
	numbers, _ := slots.New(n, first)
	return &model{numbers: numbers}
}

func maskOf(l []api.Comp) byte {
	mask := byte(0)
	for _, x := range l {
		mask |= 1 << x.Kind
	}
	return mask
}

func (m *model) find(id api.ID) (byte, int) {
	for mask, l := range m.makes {
		for row, x := range l {
			if x.ID == id {
				return byte(mask), row
			}
		}
	}
	return 0, -1
}

func (m *model) put(x api.Ent) {
	mask := maskOf(x.Comps)
	m.makes[mask] = append(m.makes[mask], x)
}

func (m *model) pull(mask byte, row int) api.Ent {
	l := m.makes[mask]
	x, end := l[row], len(l)-1
	l[row] = l[end]
	m.makes[mask] = l[:end]
	return x
}

func (m *model) spawn(l []api.Comp) (api.ID, api.Errno) {
	id, e := m.numbers.Take()
	if e == api.OK {
		m.put(ent(id, slices.Clone(l)...))
	}
	return id, e
}

func (m *model) despawn(id api.ID) api.Errno {
	mask, row := m.find(id)
	if row < 0 {
		return api.ErrDead
	}
	m.pull(mask, row)
	return m.numbers.Free(id)
}

func (m *model) set(id api.ID, v api.Comp) api.Errno {
	mask, row := m.find(id)
	switch {
	case row < 0:
		return api.ErrDead
	case mask>>v.Kind&1 == 0:
		return api.ErrNone
	}
	for i, w := range m.makes[mask][row].Comps {
		if w.Kind == v.Kind {
			m.makes[mask][row].Comps[i] = v
		}
	}
	return api.OK
}

func (m *model) add(id api.ID, v api.Comp) api.Errno {
	mask, row := m.find(id)
	switch {
	case row < 0:
		return api.ErrDead
	case mask>>v.Kind&1 == 1:
		return api.ErrTwice
	}
	x := m.pull(mask, row)
	x.Comps = append(x.Comps, v)
	slices.SortFunc(x.Comps, func(v, w api.Comp) int { return int(v.Kind) - int(w.Kind) })
	m.put(x)
	return api.OK
}

func (m *model) remove(id api.ID, kind byte) api.Errno {
	mask, row := m.find(id)
	switch {
	case row < 0:
		return api.ErrDead
	case mask>>kind&1 == 0:
		return api.ErrNone
	}
	x, left := m.pull(mask, row), []api.Comp{}
	for _, v := range x.Comps {
		if v.Kind != kind {
			left = append(left, v)
		}
	}
	m.put(ent(x.ID, left...))
	return api.OK
}

func (m *model) groups() []group {
	var l []group
	for mask, ents := range m.makes {
		if len(ents) > 0 {
			l = append(l, of(byte(mask), ents...))
		}
	}
	return l
}

// act does one thing to a store and to its model: 0 spawns, 1 despawns, 2 sets, 3 adds, 4 removes.
func act(t *testing.T, s *store.Store, m *model, do int, id api.ID, l []api.Comp) {
	t.Helper()
	var e, want api.Errno
	var got, wantID api.ID
	switch do {
	case 0:
		got, e = s.Spawn(l)
		wantID, want = m.spawn(l)
	case 1:
		e, want = s.Despawn(id), m.despawn(id)
	case 2:
		e, want = s.Set(id, l[0]), m.set(id, l[0])
	case 3:
		e, want = s.Add(id, l[0]), m.add(id, l[0])
	case 4:
		e, want = s.Remove(id, l[0].Kind), m.remove(id, l[0].Kind)
	}
	if e != want || got != wantID {
		t.Fatalf("%d of %d with %v: %d, %d, not %d, %d", do, id, l, got, e, wantID, want)
	}
}

// Every script of so many steps behind three spawns: the first eight ways are of two entities, the last two spawn.
func TestEveryShortScript(t *testing.T) {
	const steps, ways = 5, 10
	for script := range ways * ways * ways * ways * ways {
		s, m := mustNew(t, 4, api.MaxGen-1), newModel(4, api.MaxGen-1)
		for range 3 {
			act(t, s, m, 0, 0, []api.Comp{pos(1, 1)})
		}
		ids := s.List()
		for step := range int32(steps) {
			way := script % ways
			script /= ways
			if way < 8 {
				act(t, s, m, 1+way/2, ids[way%2], []api.Comp{life(step)})
			} else {
				act(t, s, m, 0, 0, sample([]byte{posMake, bothMake}[way-8], step))
			}
		}
		mustTell(t, s, m.numbers.Room(), m.groups()...)
	}
}

// dice is numbers in no plain order, the same ones each time.
type dice uint32

func (d *dice) roll(n int) int {
	*d = *d*1664525 + 1013904223
	return int(uint32(*d)>>8) % n
}

// Long scripts, whose IDs are of those in use, of earlier ones, and of none.
func TestLongScripts(t *testing.T) {
	for _, k := range []struct{ n, first, steps int }{
		{1, 1, 2000}, {3, 1, 4000}, {5, api.MaxGen - 40, 4000}, {40, 7, 4000}, {api.MaxSlots, 1, 12000},
	} {
		s, m := mustNew(t, k.n, k.first), newModel(k.n, k.first)
		d := dice(k.n)
		known := []api.ID{0, a, math.MaxUint32}
		for step := range k.steps {
			id := known[d.roll(len(known))]
			if list := s.List(); len(list) > 0 && d.roll(4) > 0 {
				id = list[d.roll(len(list))]
			}
			mask, do := byte(d.roll(64)), d.roll(7)
			if do > 0 {
				mask = 1 << d.roll(api.Kinds)
			}
			if do > 4 {
				do = 3
			}
			act(t, s, m, do, id, sample(mask, int32(step%31)))
			if len(known) < 50 {
				known = append(known, id+1024*api.ID(d.roll(3)))
			}
			if step%(1+k.n/4) == 0 {
				mustTell(t, s, m.numbers.Room(), m.groups()...)
			}
		}
		mustTell(t, s, m.numbers.Room(), m.groups()...)
	}
}
