package query_test

import (
	"math"
	"math/big"
	"slices"
	"testing"

	"pinnace/api"
	"pinnace/query"
	"pinnace/store"
)

const (
	a api.ID = 1024
	b api.ID = 1025
	c api.ID = 1026
	d api.ID = 1027
)

const (
	posMake  = 1 << api.Pos
	lifeMake = 1 << api.Life
)

// field is a kind's field and from where to where it goes, as chapter 5 has it.
type field struct {
	kind   byte
	i      int
	lo, hi int32
}

var fields = []field{
	{api.Pos, 0, -524288, 524287}, {api.Pos, 1, -524288, 524287},
	{api.Vel, 0, -32768, 32767}, {api.Vel, 1, -32768, 32767},
	{api.Life, 0, 0, 4095},
	{api.Body, 0, 0, 15}, {api.Body, 1, 0, 1000}, {api.Body, 2, 1, 100},
	{api.Tag, 0, 0, 7}, {api.Tag, 1, 0, 255}, {api.Tag, 2, 0, 31},
	{api.Spawn, 0, 1, 255}, {api.Spawn, 1, 0, 254}, {api.Spawn, 2, 0, 15},
}

func comp(kind byte, f ...int32) api.Comp {
	x := api.Comp{Kind: kind}
	copy(x.F[:], f)
	return x
}

func life(left int32) api.Comp { return comp(api.Life, left) }

func pos(x, y int32) api.Comp { return comp(api.Pos, x, y) }

// edge is a component of a kind whose fields are all least, or all greatest.
func edge(kind byte, high bool) api.Comp {
	x := api.Comp{Kind: kind}
	for _, f := range fields {
		if f.kind == kind && high {
			x.F[f.i] = f.hi
		} else if f.kind == kind {
			x.F[f.i] = f.lo
		}
	}
	return x
}

// some is components of a make, each field at a place of its range that d throws.
func some(mask byte, d *dice) []api.Comp {
	var l []api.Comp
	for kind := range byte(api.Kinds) {
		if mask>>kind&1 == 0 {
			continue
		}
		x := api.Comp{Kind: kind}
		for _, f := range fields {
			if f.kind == kind {
				x.F[f.i] = f.lo + int32(d.throw(int(f.hi-f.lo)+1))
			}
		}
		l = append(l, x)
	}
	return l
}

// dice throws the same numbers in every run.
type dice uint64

func (d *dice) throw(n int) int {
	*d = *d*6364136223846793005 + 1442695040888963407
	return int(uint64(*d) >> 33 % uint64(n))
}

func mustNew(t *testing.T, n, first int) *store.Store {
	t.Helper()
	s, e := store.New(n, first)
	if e != api.OK {
		t.Fatalf("New(%d, %d) = %d", n, first, e)
	}
	return s
}

func mustSpawn(t *testing.T, s *store.Store, l ...api.Comp) api.ID {
	t.Helper()
	id, e := s.Spawn(l)
	if e != api.OK {
		t.Fatalf("Spawn(%v) = %d", l, e)
	}
	return id
}

func must(t *testing.T, e api.Errno) {
	t.Helper()
	if e != api.OK {
		t.Fatalf("error %d", e)
	}
}

// plain is which entities there are, and what they have, by rising slots: what the queries are held against.
func plain(t *testing.T, s *store.Store) []api.Ent {
	t.Helper()
	var l []api.Ent
	for _, g := range s.Groups() {
		for _, id := range g.IDs {
			x, e := s.Ent(id)
			must(t, e)
			l = append(l, x)
		}
	}
	slices.SortFunc(l, func(x, y api.Ent) int { return int(x.ID%1024) - int(y.ID%1024) })
	return l
}

func same(x, y []api.Ent) bool {
	return slices.EqualFunc(x, y, func(x, y api.Ent) bool { return x.ID == y.ID && slices.Equal(x.Comps, y.Comps) })
}

func has(x api.Ent, kind int) bool {
	return slices.ContainsFunc(x.Comps, func(c api.Comp) bool { return int(c.Kind) == kind })
}

// fits asks bit by bit, those that are no kind's too.
func fits(x api.Ent, all, none byte) bool {
	for kind := range 8 {
		if all>>kind&1 == 1 && !has(x, kind) || none>>kind&1 == 1 && has(x, kind) {
			return false
		}
	}
	return true
}

func chosen(ents []api.Ent, all, none byte) []api.ID {
	var l []api.ID
	for _, x := range ents {
		if fits(x, all, none) {
			l = append(l, x.ID)
		}
	}
	return l
}

func page(ids []api.ID, from, n int) []api.ID {
	var l []api.ID
	for _, id := range ids {
		if int(id%1024) >= from && len(l) < n {
			l = append(l, id)
		}
	}
	return l
}

// away is how far x is from a place, without any bound.
func away(x api.Comp, px, py int32) *big.Int {
	sum := new(big.Int)
	for i, p := range []int32{px, py} {
		d := new(big.Int).Sub(big.NewInt(int64(x.F[i])), big.NewInt(int64(p)))
		sum.Add(sum, d.Mul(d, d))
	}
	return sum
}

func nearest(ents []api.Ent, px, py int32) (api.ID, bool) {
	var best *api.Ent
	for i, x := range ents {
		if has(x, api.Pos) && (best == nil || away(x.Comps[0], px, py).Cmp(away(best.Comps[0], px, py)) < 0) {
			best = &ents[i]
		}
	}
	if best == nil {
		return 0, false
	}
	return best.ID, true
}

func sum(ents []api.Ent, kind byte, i int) int64 {
	n := int64(0)
	for _, x := range ents {
		for _, c := range x.Comps {
			if c.Kind == kind {
				n += int64(c.F[i])
			}
		}
	}
	return n
}

func mustWith(t *testing.T, s *store.Store, all, none byte, want ...api.ID) {
	t.Helper()
	if l := query.With(s, all, none); !slices.Equal(l, want) {
		t.Fatalf("With(%d, %d) = %d, not %d", all, none, l, want)
	}
	if n := query.Count(s, all, none); n != len(want) {
		t.Fatalf("Count(%d, %d) = %d, not %d", all, none, n, len(want))
	}
}

func mustPage(t *testing.T, s *store.Store, all, none byte, from, n int, want ...api.ID) {
	t.Helper()
	if l := query.Page(s, all, none, from, n); !slices.Equal(l, want) {
		t.Fatalf("Page(%d, %d, %d, %d) = %d, not %d", all, none, from, n, l, want)
	}
}

func mustSum(t *testing.T, s *store.Store, kind byte, i int, want int64) {
	t.Helper()
	if n, e := query.Sum(s, kind, i); n != want || e != api.OK {
		t.Fatalf("Sum(%d, %d) = %d, %d, not %d", kind, i, n, e, want)
	}
}

func mustNotSum(t *testing.T, s *store.Store, kind byte, i int) {
	t.Helper()
	if n, e := query.Sum(s, kind, i); n != 0 || e != api.ErrArg {
		t.Fatalf("Sum(%d, %d) = %d, %d, not 0, ErrArg", kind, i, n, e)
	}
}

func mustNearest(t *testing.T, s *store.Store, x, y int32, want api.ID) {
	t.Helper()
	if id, ok := query.Nearest(s, x, y); id != want || ok != (want != 0) {
		t.Fatalf("Nearest(%d, %d) = %d, %t, not %d", x, y, id, ok, want)
	}
}

// example is the chapter's: a has a pos, b a pos and a life, c a life.
func example(t *testing.T) *store.Store {
	t.Helper()
	s := mustNew(t, 4, 1)
	mustSpawn(t, s, pos(10, 20))
	mustSpawn(t, s, pos(-30, 40), life(5))
	mustSpawn(t, s, life(6))
	return s
}

func TestExample(t *testing.T) {
	s := example(t)
	mustWith(t, s, posMake, 0, a, b)
	mustWith(t, s, posMake, lifeMake, a)
	mustPage(t, s, 0, 0, 1, 1, b)
	mustSum(t, s, api.Life, 0, 11)
	mustSum(t, s, api.Pos, 0, -20)
	mustSum(t, s, api.Pos, 1, 60)
	mustNearest(t, s, 10, 20, a)
	mustNearest(t, s, -30, 40, b)
}

func TestMasks(t *testing.T) {
	s := example(t)
	mustWith(t, s, 0, 0, a, b, c)
	mustWith(t, s, lifeMake, 0, b, c)
	mustWith(t, s, posMake|lifeMake, 0, b)
	mustWith(t, s, 0, posMake, c)
	mustWith(t, s, 0, posMake|lifeMake)
	mustWith(t, s, lifeMake, posMake, c)
	// What must be there and must not be there is nowhere.
	mustWith(t, s, posMake, posMake)
	mustWith(t, s, 255, 0)
	mustWith(t, s, 0, 255)
	mustWith(t, s, 255, 255)
	mustWith(t, s, 63, 0)
	mustWith(t, s, 0, 63)
	mustSpawn(t, s)
	mustWith(t, s, 0, 255, d)
	mustWith(t, s, 0, 63, d)
	mustWith(t, s, 0, 0, a, b, c, d)
}

// Nobody has a kind that there is not.
func TestBitsOfNoKind(t *testing.T) {
	s := example(t)
	for _, stray := range []byte{64, 128, 192} {
		mustWith(t, s, stray, 0)
		mustWith(t, s, posMake|stray, 0)
		mustWith(t, s, 0, stray, a, b, c)
		mustWith(t, s, posMake, lifeMake|stray, a)
		mustWith(t, s, stray, stray)
		mustPage(t, s, stray, 0, 0, 9)
		mustPage(t, s, 0, stray, 1, 9, b, c)
	}
}

// Every two masks, of an entity of each make.
func TestEveryMask(t *testing.T) {
	s := mustNew(t, 64, 1)
	throws := dice(1)
	for slot := range 64 {
		mustSpawn(t, s, some(byte(slot*37%64), &throws)...)
	}
	ents := plain(t, s)
	for all := range 256 {
		for none := range 256 {
			mustWith(t, s, byte(all), byte(none), chosen(ents, byte(all), byte(none))...)
		}
	}
}

func TestPages(t *testing.T) {
	s := mustNew(t, 10, 1)
	for slot := range int32(10) {
		if slot%3 == 0 {
			mustSpawn(t, s, life(slot))
		} else {
			mustSpawn(t, s, pos(slot, 0))
		}
	}
	must(t, s.Despawn(1029))
	ents := plain(t, s)
	numbers := []int{math.MinInt, math.MinInt32, -1025, -1024, -11, -1, 1023, 1024, 1025, math.MaxInt32, math.MaxInt}
	for n := range 13 {
		numbers = append(numbers, n)
	}
	for _, all := range []byte{0, posMake, lifeMake, 64} {
		for _, none := range []byte{0, posMake, lifeMake, 64} {
			for _, from := range numbers {
				for _, n := range numbers {
					mustPage(t, s, all, none, from, n, page(chosen(ents, all, none), from, n)...)
				}
			}
		}
	}
	// Said once more in numbers.
	mustPage(t, s, posMake, 0, 0, 3, 1025, 1026, 1028)
	mustPage(t, s, posMake, 0, 3, 2, 1028, 1031)
	mustPage(t, s, posMake, 0, 4, 9, 1028, 1031, 1032)
	mustPage(t, s, lifeMake, 0, 9, 1, 1033)
	mustPage(t, s, lifeMake, 0, 10, 1)
	mustPage(t, s, 0, 0, math.MinInt, 1, 1024)
	mustPage(t, s, 0, 0, 0, 0)
	mustPage(t, s, 0, 0, 0, -1)
}

// Page by page, from behind the last one's slot on, all are told once.
func TestPageByPage(t *testing.T) {
	s := mustNew(t, 50, 3)
	throws := dice(2)
	for range 50 {
		mustSpawn(t, s, some(byte(throws.throw(64)), &throws)...)
	}
	want := query.With(s, posMake, lifeMake)
	for n := 1; n <= len(want)+1; n++ {
		var got []api.ID
		for from := 0; ; {
			l := query.Page(s, posMake, lifeMake, from, n)
			if len(l) == 0 {
				break
			}
			got = append(got, l...)
			from = int(l[len(l)-1]%1024) + 1
		}
		if !slices.Equal(got, want) {
			t.Fatalf("by pages of %d: %d, not %d", n, got, want)
		}
	}
}

// It goes by slots, not by numbers, by makes or by who came first.
func TestBySlots(t *testing.T) {
	s := example(t)
	must(t, s.Despawn(a))
	mustWith(t, s, 0, 0, b, c)
	mustPage(t, s, 0, 0, 0, 1, b)
	again := mustSpawn(t, s, pos(1, 1), life(1))
	if again != 2048 {
		t.Fatal(again)
	}
	mustWith(t, s, 0, 0, 2048, b, c)
	mustWith(t, s, lifeMake, 0, 2048, b, c)
	mustPage(t, s, 0, 0, 0, 2, 2048, b)
	mustPage(t, s, 0, 0, 1, 2, b, c)
	must(t, s.Remove(2048, api.Pos))
	must(t, s.Add(c, pos(0, 0)))
	mustWith(t, s, posMake, 0, b, c)
	mustWith(t, s, lifeMake, posMake, 2048)
	must(t, s.Despawn(2048))
	must(t, s.Despawn(b))
	must(t, s.Despawn(c))
	mustWith(t, s, 0, 0)
	mustPage(t, s, 0, 0, 0, 9)
}

func TestAsManyAsThereMayBe(t *testing.T) {
	s := mustNew(t, api.MaxSlots, api.MaxGen)
	first := api.ID(math.MaxUint32 - 1023)
	var all, even []api.ID
	for slot := range api.ID(api.MaxSlots) {
		if slot%2 == 0 {
			mustSpawn(t, s, pos(int32(slot), 0))
			even = append(even, first+slot)
		} else {
			mustSpawn(t, s)
		}
		all = append(all, first+slot)
	}
	mustWith(t, s, 0, 0, all...)
	mustWith(t, s, posMake, 0, even...)
	mustPage(t, s, 0, 0, 0, 1024, all...)
	mustPage(t, s, 0, 0, 0, 1023, all[:1023]...)
	mustPage(t, s, 0, 0, -1, 1025, all...)
	mustPage(t, s, 0, 0, 1023, 1, math.MaxUint32)
	mustPage(t, s, 0, 0, 1023, 2, math.MaxUint32)
	mustPage(t, s, posMake, 0, 1023, 1)
	mustPage(t, s, posMake, 0, 1022, 1, math.MaxUint32-1)
	mustPage(t, s, 0, 0, 1024, 1)
	mustPage(t, s, 0, 0, math.MaxInt, math.MaxInt)
	mustNearest(t, s, 1022, 0, math.MaxUint32-1)
	mustNearest(t, s, 1023, 0, math.MaxUint32-1)
	mustNearest(t, s, 1021, 0, first+1020)
}

// As many entities as there may be, each with every kind, at either end of every field's range, or half of them at each.
func TestSumsOverTheEnds(t *testing.T) {
	for _, halves := range [][2]bool{{false, false}, {true, true}, {false, true}} {
		s := mustNew(t, api.MaxSlots, 1)
		for slot := range api.MaxSlots {
			var l []api.Comp
			for kind := range byte(api.Kinds) {
				l = append(l, edge(kind, halves[slot%2]))
			}
			mustSpawn(t, s, l...)
		}
		for _, f := range fields {
			want := int64(0)
			for _, high := range halves {
				if high {
					want += 512 * int64(f.hi)
				} else {
					want += 512 * int64(f.lo)
				}
			}
			mustSum(t, s, f.kind, f.i, want)
		}
	}
}

// Only components of the kind count, and only those of entities that there are.
func TestSumOfAKind(t *testing.T) {
	s := mustNew(t, 9, 1)
	for _, f := range fields {
		mustSum(t, s, f.kind, f.i, 0)
	}
	mustSpawn(t, s, comp(api.Body, 1, 20, 30), comp(api.Tag, 4, 50, 6))
	mustSpawn(t, s, comp(api.Body, 2, 200, 70))
	mustSpawn(t, s, comp(api.Tag, 3, 8, 9), comp(api.Spawn, 100, 99, 7))
	sums := map[byte][]int64{api.Body: {3, 220, 100}, api.Tag: {7, 58, 15}, api.Spawn: {100, 99, 7}, api.Life: {0}, api.Pos: {0, 0}, api.Vel: {0, 0}}
	for kind, l := range sums {
		for i, want := range l {
			mustSum(t, s, kind, i, want)
		}
	}
	must(t, s.Set(a, comp(api.Body, 5, 21, 31)))
	mustSum(t, s, api.Body, 0, 7)
	must(t, s.Remove(b, api.Body))
	mustSum(t, s, api.Body, 1, 21)
	must(t, s.Despawn(c))
	mustSum(t, s, api.Tag, 2, 6)
	mustSum(t, s, api.Spawn, 0, 0)
}

func TestSumOfAFieldThatThereIsNot(t *testing.T) {
	counts := map[int]int{api.Pos: 2, api.Vel: 2, api.Life: 1, api.Body: 3, api.Tag: 3, api.Spawn: 3}
	full := mustNew(t, 3, 1)
	throws := dice(3)
	mustSpawn(t, full, some(63, &throws)...)
	for _, s := range []*store.Store{full, mustNew(t, 3, 1), nil} {
		for kind := range 256 {
			mustNotSum(t, s, byte(kind), counts[kind])
			for _, i := range []int{-1, -2, 3, 4, 255, 256, math.MinInt, math.MinInt32, math.MaxInt32, math.MaxInt, 1 << 32} {
				mustNotSum(t, s, byte(kind), i)
			}
			for i := counts[kind]; i < 8; i++ {
				mustNotSum(t, s, byte(kind), i)
			}
		}
	}
}

func TestNearest(t *testing.T) {
	s := mustNew(t, 9, 1)
	mustNearest(t, s, 0, 0, 0)
	mustSpawn(t, s, life(1))
	mustSpawn(t, s)
	// Who has no pos isn't anywhere, not even at 0 0.
	mustNearest(t, s, 0, 0, 0)
	mustSpawn(t, s, pos(100, 0), life(1))
	mustNearest(t, s, 0, 0, c)
	mustSpawn(t, s, pos(0, 99))
	mustNearest(t, s, 0, 0, d)
	// By the squares, not by the greater difference, nor by the sum of both.
	mustSpawn(t, s, pos(71, 71))
	mustNearest(t, s, 0, 0, d)
	must(t, s.Set(d, pos(0, 100)))
	must(t, s.Set(1028, pos(70, 70)))
	mustNearest(t, s, 0, 0, 1028)
	must(t, s.Despawn(1028))
	mustNearest(t, s, 0, 0, c)
	mustNearest(t, s, -1, 2, d)
	must(t, s.Remove(c, api.Pos))
	mustNearest(t, s, 100, 0, d)
}

func TestEquallyNear(t *testing.T) {
	s := mustNew(t, 9, 1)
	for _, p := range [][2]int32{{5, 0}, {0, -5}, {-3, 4}, {4, 3}} {
		mustSpawn(t, s, pos(p[0], p[1]))
	}
	mustNearest(t, s, 0, 0, a)
	// The make of a comes behind that of the others, and it stays the least slot.
	must(t, s.Add(a, life(1)))
	mustNearest(t, s, 0, 0, a)
	must(t, s.Despawn(a))
	mustNearest(t, s, 0, 0, b)
	// A slot that was freed has a greater number, and is the least one still.
	mustSpawn(t, s, pos(-5, 0), life(2))
	mustNearest(t, s, 0, 0, 2048)
	must(t, s.Set(2048, pos(-5, 1)))
	mustNearest(t, s, 0, 0, b)
	must(t, s.Remove(b, api.Pos))
	mustNearest(t, s, 0, 0, c)
}

// The ends of the world, and places as far beyond them as an int32 goes: two squares there are more than an int64 holds.
func TestFarAway(t *testing.T) {
	ends := []int32{-524288, -524287, -1, 0, 1, 524286, 524287}
	places := slices.Concat(ends, []int32{math.MinInt32, math.MinInt32 + 1, -1 << 30, -524289, 524288, 1 << 30, math.MaxInt32 - 1, math.MaxInt32})
	s := mustNew(t, 49, 1)
	for i := range 49 {
		mustSpawn(t, s, pos(ends[i*5%7], ends[(i/7*3+i)%7]))
	}
	ents := plain(t, s)
	for _, x := range places {
		for _, y := range places {
			want, _ := nearest(ents, x, y)
			mustNearest(t, s, x, y, want)
		}
	}
	two := mustNew(t, 2, 1)
	mustSpawn(t, two, pos(524287, 524287))
	mustSpawn(t, two, pos(-524288, -524288))
	mustNearest(t, two, math.MinInt32, math.MinInt32, b)
	mustNearest(t, two, math.MaxInt32, math.MaxInt32, a)
	// The world's middle lies between 0 and -1.
	mustNearest(t, two, 0, 0, a)
	mustNearest(t, two, -1, -1, b)
	// On the line across the middle both are equally near.
	mustNearest(t, two, 0, -1, a)
	mustNearest(t, two, math.MinInt32, math.MaxInt32, a)
	mustNearest(t, two, math.MinInt32, math.MaxInt32-1, b)
	mustNearest(t, two, math.MaxInt32, math.MinInt32, a)
	mustNearest(t, two, math.MaxInt32-1, math.MinInt32, b)
}

func TestNoStore(t *testing.T) {
	empty := mustNew(t, 5, 1)
	for _, s := range []*store.Store{nil, empty} {
		for _, mask := range []byte{0, 1, 63, 64, 255} {
			for _, none := range []byte{0, 1, 63, 64, 255} {
				mustWith(t, s, mask, none)
				for _, n := range []int{math.MinInt, -1, 0, 1, math.MaxInt} {
					mustPage(t, s, mask, none, 0, n)
					mustPage(t, s, mask, none, n, 1)
				}
			}
		}
		for _, f := range fields {
			mustSum(t, s, f.kind, f.i, 0)
		}
		mustNearest(t, s, 0, 0, 0)
		mustNearest(t, s, math.MinInt32, math.MaxInt32, 0)
	}
}

// full is a list with its spare room.
func full(l []api.ID) []api.ID { return l[:cap(l)] }

func scribble(l []api.ID) {
	for i := range full(l) {
		full(l)[i] = 77
	}
}

// What was handed out is the caller's: later calls don't change it, and writing over it changes nothing.
func TestAnswersAreTheCallers(t *testing.T) {
	s := example(t)
	before := plain(t, s)
	with, paged := query.With(s, 0, 0), query.Page(s, 0, 0, 0, 3)
	scribble(with)
	if !slices.Equal(paged, []api.ID{a, b, c}) {
		t.Fatal(paged)
	}
	scribble(paged)
	if !same(before, plain(t, s)) {
		t.Fatal(plain(t, s))
	}
	mustWith(t, s, 0, 0, a, b, c)
	mustPage(t, s, 0, 0, 0, 3, a, b, c)
	with, paged = query.With(s, posMake, 0), query.Page(s, lifeMake, 0, 0, 9)
	must(t, s.Despawn(a))
	must(t, s.Despawn(b))
	mustSpawn(t, s, life(1))
	mustWith(t, s, 0, 0, b+1024, c)
	if !slices.Equal(with, []api.ID{a, b}) || !slices.Equal(paged, []api.ID{b, c}) {
		t.Fatal(with, paged)
	}
}

// To ask changes nothing, whatever is asked.
func TestAskingChangesNothing(t *testing.T) {
	s := mustNew(t, 40, 1)
	throws := dice(4)
	for range 30 {
		mustSpawn(t, s, some(byte(throws.throw(64)), &throws)...)
	}
	must(t, s.Despawn(1030))
	groups, ents := s.Groups(), plain(t, s)
	for range 200 {
		all, none := byte(throws.throw(256)), byte(throws.throw(256))
		query.With(s, all, none)
		query.Count(s, all, none)
		query.Page(s, all, none, throws.throw(50)-5, throws.throw(50)-5)
		query.Sum(s, byte(throws.throw(8)), throws.throw(6)-1)
		query.Nearest(s, int32(throws.throw(1<<20)), int32(throws.throw(1<<20)))
	}
	if !same(ents, plain(t, s)) || s.Room() != 11 {
		t.Fatal(s.Room(), plain(t, s))
	}
	for i, g := range s.Groups() {
		if g.Mask != groups[i].Mask || !slices.Equal(g.IDs, groups[i].IDs) {
			t.Fatal(s.Groups(), groups)
		}
	}
	if id := mustSpawn(t, s); id != 2054 {
		t.Fatal(id)
	}
}

// mustAgree asks for some of everything and holds it against what plain tells.
func mustAgree(t *testing.T, s *store.Store, d *dice) {
	t.Helper()
	ents := plain(t, s)
	all, none := byte(1<<d.throw(8)>>d.throw(2)), byte(d.throw(64)&d.throw(64)&d.throw(256))
	want := chosen(ents, all, none)
	mustWith(t, s, all, none, want...)
	from, n := d.throw(30)-2, d.throw(30)-2
	mustPage(t, s, all, none, from, n, page(want, from, n)...)
	f := fields[d.throw(len(fields))]
	mustSum(t, s, f.kind, f.i, sum(ents, f.kind, f.i))
	x, y := int32(d.throw(1<<20)-1<<19), int32(d.throw(1<<20)-1<<19)
	near, _ := nearest(ents, x, y)
	mustNearest(t, s, x, y, near)
}

// A long life of a store, asked at every step.
func TestLongScript(t *testing.T) {
	for seed := range dice(8) {
		s := mustNew(t, 25, api.MaxGen-9)
		throws := seed
		for range 1500 {
			id := api.ID(api.MaxGen-9+throws.throw(10))*1024 + api.ID(throws.throw(25))
			if l := s.List(); len(l) > 0 && throws.throw(5) > 0 {
				id = l[throws.throw(len(l))]
			}
			one := some(1<<throws.throw(6), &throws)[0]
			switch throws.throw(7) {
			case 0, 1:
				s.Spawn(some(byte(throws.throw(64)), &throws))
			case 2:
				s.Despawn(id)
			case 3:
				s.Set(id, one)
			case 4, 5:
				s.Add(id, one)
			case 6:
				s.Remove(id, one.Kind)
			}
			mustAgree(t, s, &throws)
		}
	}
}
