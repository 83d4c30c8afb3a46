package slots_test

import (
	"math"
	"slices"
	"testing"

	"pinnace/api"
	"pinnace/slots"
)

func mustNew(t *testing.T, n, first int) *slots.Slots {
	t.Helper()
	s, e := slots.New(n, first)
	if s == nil || e != api.OK {
		t.Fatalf("New(%d, %d) = %v, %d", n, first, s, e)
	}
	return s
}

func mustTake(t *testing.T, s *slots.Slots, want api.ID) {
	t.Helper()
	if id, e := s.Take(); id != want || e != api.OK {
		t.Fatalf("Take = %d, %d, not %d, 0", id, e, want)
	}
}

func mustBeFull(t *testing.T, s *slots.Slots) {
	t.Helper()
	if id, e := s.Take(); id != 0 || e != api.ErrFull {
		t.Fatalf("Take = %d, %d, not 0, ErrFull", id, e)
	}
}

func mustFree(t *testing.T, s *slots.Slots, id api.ID) {
	t.Helper()
	if e := s.Free(id); e != api.OK {
		t.Fatalf("Free(%d) = %d", id, e)
	}
}

// mustTell asks for everything that s tells of how it stands.
func mustTell(t *testing.T, s *slots.Slots, room int, live ...api.ID) {
	t.Helper()
	if l := s.List(); !slices.Equal(l, live) {
		t.Fatalf("List = %d, not %d", l, live)
	}
	if n := s.Len(); n != len(live) {
		t.Fatalf("Len = %d, not %d", n, len(live))
	}
	if n := s.Room(); n != room {
		t.Fatalf("Room = %d, not %d", n, room)
	}
	for _, id := range live {
		if !s.Live(id) {
			t.Fatalf("%d isn't live", id)
		}
	}
}

func TestMake(t *testing.T) {
	for _, x := range []struct {
		slot, gen int
		id        api.ID
	}{
		{0, 1, 1024}, {1, 1, 1025}, {1023, 1, 2047},
		{0, 2, 2048}, {1, 2, 2049}, {0, 3, 3072},
		{0, 4194303, 4294966272}, {1, 4194303, 4294966273}, {1023, 4194303, 4294967295},
		{1022, 4194302, 4294966270}, {512, 2097152, 2147484160},
	} {
		if id, e := slots.Make(x.slot, x.gen); id != x.id || e != api.OK {
			t.Errorf("Make(%d, %d) = %d, %d, not %d", x.slot, x.gen, id, e, x.id)
		}
	}
}

func TestMakeAndBack(t *testing.T) {
	for gen := 1; gen <= api.MaxGen; gen += 9973 {
		for slot := range api.MaxSlots {
			id, e := slots.Make(slot, gen)
			if e != api.OK || uint64(id) != uint64(gen)*1024+uint64(slot) {
				t.Fatal(slot, gen, id, e)
			}
			if slots.Slot(id) != slot || slots.Gen(id) != gen {
				t.Fatal(slot, gen, slots.Slot(id), slots.Gen(id))
			}
		}
	}
}

func TestMakeOfWhatThereIsNot(t *testing.T) {
	wrongSlots := []int{-1, -1024, 1024, 1025, 2048, math.MinInt, math.MinInt32, math.MaxInt32, math.MaxInt, 1 << 32, 1<<32 + 1}
	wrongGens := []int{0, -1, 4194304, 4194305, 8388608, math.MinInt, math.MinInt32, math.MaxInt32, math.MaxInt, 1 << 32, 1<<32 + 1, 1 << 54}
	refuse := func(slot, gen int) {
		t.Helper()
		if id, e := slots.Make(slot, gen); id != 0 || e != api.ErrArg {
			t.Errorf("Make(%d, %d) = %d, %d", slot, gen, id, e)
		}
	}
	for _, slot := range wrongSlots {
		refuse(slot, 1)
		refuse(slot, api.MaxGen)
		for _, gen := range wrongGens {
			refuse(slot, gen)
		}
	}
	for _, gen := range wrongGens {
		refuse(0, gen)
		refuse(api.MaxSlots-1, gen)
	}
}

// Also of IDs that Make never answers: those of the generation 0.
func TestSlotAndGenOfAnyID(t *testing.T) {
	for _, x := range []struct {
		id        api.ID
		slot, gen int
	}{
		{0, 0, 0}, {1, 1, 0}, {1023, 1023, 0}, {1024, 0, 1}, {1025, 1, 1}, {2047, 1023, 1}, {2048, 0, 2},
		{math.MaxInt32, 1023, 2097151}, {math.MaxInt32 + 1, 0, 2097152},
		{math.MaxUint32, 1023, 4194303}, {math.MaxUint32 - 1023, 0, 4194303}, {math.MaxUint32 - 1024, 1023, 4194302},
	} {
		if slot, gen := slots.Slot(x.id), slots.Gen(x.id); slot != x.slot || gen != x.gen {
			t.Errorf("%d is slot %d, generation %d", x.id, slot, gen)
		}
	}
}

func TestNewEdges(t *testing.T) {
	for _, n := range []int{1, 2, 1023, 1024} {
		for _, first := range []int{1, 2, 4194302, 4194303} {
			mustTell(t, mustNew(t, n, first), n)
		}
	}
}

func TestNewOfWhatThereIsNot(t *testing.T) {
	refuse := func(n, first int) {
		t.Helper()
		if s, e := slots.New(n, first); s != nil || e != api.ErrArg {
			t.Errorf("New(%d, %d) = %v, %d", n, first, s, e)
		}
	}
	for _, n := range []int{0, -1, 1025, 1026, math.MinInt, math.MinInt32, math.MaxInt32, math.MaxInt, 1<<32 + 1} {
		refuse(n, 1)
		refuse(n, api.MaxGen)
		refuse(n, 0)
		refuse(n, api.MaxGen+1)
	}
	for _, first := range []int{0, -1, 4194304, 4194305, math.MinInt, math.MinInt32, math.MaxInt32, math.MaxInt, 1<<32 + 1} {
		refuse(1, first)
		refuse(api.MaxSlots, first)
	}
}

func TestExamples(t *testing.T) {
	s := mustNew(t, 2, 1)
	mustTake(t, s, 1024)
	mustTake(t, s, 1025)
	mustBeFull(t, s)
	mustFree(t, s, 1024)
	mustTake(t, s, 2048)
	mustFree(t, s, 1025)
	mustFree(t, s, 2048)
	mustTake(t, s, 3072)
	mustTake(t, s, 2049)
	mustTell(t, s, 0, 3072, 2049)

	s = mustNew(t, 1, api.MaxGen)
	mustTake(t, s, math.MaxUint32-1023)
	mustFree(t, s, math.MaxUint32-1023)
	mustBeFull(t, s)
	mustTell(t, s, 0)
}

func TestAllSlotsByRisingOnes(t *testing.T) {
	for _, n := range []int{1, 2, api.MaxSlots - 1, api.MaxSlots} {
		s := mustNew(t, n, 7)
		live := []api.ID{}
		for slot := range n {
			mustTell(t, s, n-slot, live...)
			id := api.ID(7*1024 + slot)
			mustTake(t, s, id)
			live = append(live, id)
		}
		mustTell(t, s, 0, live...)
		mustBeFull(t, s)
		mustBeFull(t, s)
		mustTell(t, s, 0, live...)
		for i, id := range live {
			mustFree(t, s, id)
			mustTell(t, s, i+1, live[i+1:]...)
		}
		// The one that was freed last goes first, so now they come falling.
		for slot := n - 1; slot >= 0; slot-- {
			mustTake(t, s, api.ID(8*1024+slot))
		}
		mustBeFull(t, s)
	}
}

// Those that were freed, the last one first; only behind them those that never were in use.
func TestFreedLastThenLeast(t *testing.T) {
	s := mustNew(t, 6, 1)
	for slot := range 4 {
		mustTake(t, s, api.ID(1024+slot))
	}
	mustFree(t, s, 1026)
	mustFree(t, s, 1024)
	mustFree(t, s, 1027)
	mustTell(t, s, 5, 1025)
	mustTake(t, s, 2048+3)
	mustTake(t, s, 2048)
	mustFree(t, s, 1025)
	mustTake(t, s, 2049)
	mustTake(t, s, 2050)
	mustTell(t, s, 2, 2048, 2049, 2050, 2051)
	mustTake(t, s, 1028)
	mustTake(t, s, 1029)
	mustBeFull(t, s)
	mustTell(t, s, 0, 2048, 2049, 2050, 2051, 1028, 1029)
}

func TestLastGeneration(t *testing.T) {
	top := api.ID(math.MaxUint32 - 1023)
	s := mustNew(t, 3, api.MaxGen-1)
	mustTake(t, s, top-1024)
	mustTake(t, s, top-1023)
	mustFree(t, s, top-1024)
	mustTell(t, s, 2, top-1023)
	mustTake(t, s, top)
	mustFree(t, s, top-1023)
	mustFree(t, s, top)
	// Slot 0 was freed last, but for good; so it is slot 1's turn, and then that of slot 2.
	mustTell(t, s, 2)
	mustTake(t, s, top+1)
	mustTake(t, s, top-1022)
	mustBeFull(t, s)
	mustTell(t, s, 0, top+1, top-1022)
	if s.Live(top) || s.Free(top) != api.ErrDead {
		t.Fatal("what was freed for good is live")
	}
	mustFree(t, s, top+1)
	mustFree(t, s, top-1022)
	mustTell(t, s, 1)
	mustTake(t, s, top+2)
	mustFree(t, s, top+2)
	mustBeFull(t, s)
	mustTell(t, s, 0)
}

// All the generations that a slot has, one behind the other.
func TestAllGenerations(t *testing.T) {
	s := mustNew(t, 1, 1)
	for gen := 1; gen <= api.MaxGen; gen++ {
		id, e := s.Take()
		if uint64(id) != uint64(gen)*1024 || e != api.OK {
			t.Fatal(gen, id, e)
		}
		if e := s.Free(id); e != api.OK {
			t.Fatal(gen, e)
		}
	}
	mustBeFull(t, s)
	mustTell(t, s, 0)
}

func TestIDsThatAreNotInUse(t *testing.T) {
	s := mustNew(t, 3, 5)
	mustTake(t, s, 5*1024)
	mustTake(t, s, 5*1024+1)
	mustFree(t, s, 5*1024)
	mustTake(t, s, 6*1024)
	mustFree(t, s, 5*1024+1)
	for _, id := range []api.ID{
		0, 1, 2, 3, 1023, // no generation
		5 * 1024, 4 * 1024, 7 * 1024, 1024, // slot 0: no longer, ahead of its first, not yet, never
		5*1024 + 1, 6*1024 + 1, // slot 1: no longer, not yet
		5*1024 + 2, 6*1024 + 2, 1024 + 2, // slot 2: never was in use
		5*1024 + 3, 6*1024 + 3, 6*1024 + 1023, // slots that there are not
		math.MaxUint32, math.MaxUint32 - 1023, math.MaxInt32 + 1, 1<<31 + 6*1024,
	} {
		if s.Live(id) {
			t.Errorf("%d is live", id)
		}
		if e := s.Free(id); e != api.ErrDead {
			t.Errorf("Free(%d) = %d", id, e)
		}
		mustTell(t, s, 2, 6*1024)
	}
	mustTake(t, s, 6*1024+1)
	mustTake(t, s, 5*1024+2)
	mustBeFull(t, s)
}

func TestFreeOfNoneInUse(t *testing.T) {
	s := mustNew(t, 2, 1)
	for _, id := range []api.ID{0, 1, 1024, 1025, 1026, 2048, math.MaxUint32} {
		if s.Live(id) || s.Free(id) != api.ErrDead {
			t.Error(id)
		}
	}
	mustTell(t, s, 2)
	mustTake(t, s, 1024)
	mustFree(t, s, 1024)
	if e := s.Free(1024); e != api.ErrDead {
		t.Error("twice:", e)
	}
	mustTell(t, s, 2)
	mustTake(t, s, 2048)
	mustTake(t, s, 1025)
	mustBeFull(t, s)
}

func TestNilSlots(t *testing.T) {
	var s *slots.Slots
	if id, e := s.Take(); id != 0 || e != api.ErrNone {
		t.Error("Take", id, e)
	}
	for _, id := range []api.ID{0, 1024, math.MaxUint32} {
		if e := s.Free(id); e != api.ErrNone {
			t.Error("Free", id, e)
		}
		if s.Live(id) {
			t.Error("Live", id)
		}
	}
	if s.Len() != 0 || s.Room() != 0 || len(s.List()) != 0 {
		t.Error(s.Len(), s.Room(), s.List())
	}
}

func TestListsAreTheirOwn(t *testing.T) {
	s := mustNew(t, 4, 1)
	mustTake(t, s, 1024)
	mustTake(t, s, 1025)
	a, b := s.List(), s.List()
	mustFree(t, s, 1024)
	mustTake(t, s, 2048)
	mustTake(t, s, 1026)
	want := []api.ID{1024, 1025}
	if !slices.Equal(a, want) || !slices.Equal(b, want) {
		t.Fatal("later calls changed a list", a, b)
	}
	for _, l := range [][]api.ID{a, s.List()} {
		l = l[:cap(l)]
		for i := range l {
			l[i] = 77
		}
	}
	if !slices.Equal(b, want) {
		t.Fatal("one list stands in another", b)
	}
	mustTell(t, s, 1, 2048, 1025, 1026)
	mustFree(t, s, 1025)
	mustTake(t, s, 2049)
	mustTake(t, s, 1027)
	mustBeFull(t, s)
}

func TestSlotsAreApart(t *testing.T) {
	a, b := mustNew(t, 2, 1), mustNew(t, 2, 1)
	mustTake(t, a, 1024)
	mustFree(t, a, 1024)
	mustTake(t, a, 2048)
	mustTell(t, b, 2)
	mustTake(t, b, 1024)
	mustTell(t, a, 1, 2048)
	mustTell(t, b, 1, 1024)
}

// plain is slots as the chapter says them: by what was done, from the beginning on.
type plain struct {
	n, first int
	uses     []int  // of each slot: how often it was taken
	used     []bool // of each slot
	freedAt  []int  // of each slot: at which step it was freed, 0 if it wasn't
	steps    int
}

func newPlain(n, first int) *plain {
	return &plain{n: n, first: first, uses: make([]int, n), used: make([]bool, n), freedAt: make([]int, n)}
}

func (p *plain) id(slot int) api.ID {
	return api.ID((p.first+p.uses[slot]-1)*1024 + slot)
}

// next is the slot that is taken next, or -1.
func (p *plain) next() int {
	best := -1
	for slot := range p.n {
		could := !p.used[slot] && p.uses[slot] > 0 && p.first+p.uses[slot] <= 4194303
		if could && (best < 0 || p.freedAt[slot] > p.freedAt[best]) {
			best = slot
		}
	}
	if best < 0 {
		best = slices.Index(p.uses, 0)
	}
	return best
}

func (p *plain) take() (api.ID, api.Errno) {
	p.steps++
	slot := p.next()
	if slot < 0 {
		return 0, api.ErrFull
	}
	p.uses[slot]++
	p.used[slot] = true
	return p.id(slot), api.OK
}

func (p *plain) free(id api.ID) api.Errno {
	p.steps++
	for slot := range p.n {
		if p.used[slot] && p.id(slot) == id {
			p.used[slot] = false
			p.freedAt[slot] = p.steps
			return api.OK
		}
	}
	return api.ErrDead
}

func (p *plain) list() []api.ID {
	l := []api.ID{}
	for slot := range p.n {
		if p.used[slot] {
			l = append(l, p.id(slot))
		}
	}
	return l
}

func (p *plain) room() int {
	n := 0
	for slot := range p.n {
		if !p.used[slot] && p.first+p.uses[slot] <= 4194303 {
			n++
		}
	}
	return n
}

const steps = 8

// Every script of so many steps: step 0 takes, step 1 + slot frees what that slot had last (or would have first).
func TestScripts(t *testing.T) {
	for _, n := range []int{1, 2, 3} {
		for _, first := range []int{1, 9, api.MaxGen - 2, api.MaxGen - 1, api.MaxGen} {
			scripts := 1
			for range steps {
				scripts *= n + 1
			}
			for script := range scripts {
				runScript(t, n, first, script)
			}
		}
	}
}

func runScript(t *testing.T, n, first, script int) {
	t.Helper()
	s, p := mustNew(t, n, first), newPlain(n, first)
	left := script
	for range steps {
		slot := left%(n+1) - 1
		left /= n + 1
		if slot < 0 {
			id, e := s.Take()
			if wid, we := p.take(); id != wid || e != we {
				t.Fatalf("%d slots from %d, script %d: Take = %d, %d, not %d, %d", n, first, script, id, e, wid, we)
			}
		} else {
			id := api.ID((first+max(p.uses[slot], 1)-1)*1024 + slot)
			e := s.Free(id)
			if we := p.free(id); e != we {
				t.Fatalf("%d slots from %d, script %d: Free(%d) = %d, not %d", n, first, script, id, e, we)
			}
		}
		mustTell(t, s, p.room(), p.list()...)
	}
}
