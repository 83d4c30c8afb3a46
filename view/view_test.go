package view_test

import (
	"math"
	"slices"
	"testing"

	"pinnace/api"
	"pinnace/cells"
	"pinnace/view"
)

const (
	west = -524288
	east = 524287
)

// dice throws the same numbers in every run.
type dice uint64

func (d *dice) throw(n int) int {
	*d = *d*6364136223846793005 + 1442695040888963407
	return int(uint64(*d) >> 33 % uint64(n))
}

// on is a region that is On.
func on(cx, cy, r int) api.Region { return api.Region{On: true, CX: cx, CY: cy, R: r} }

// off is the same without being On.
func off(r api.Region) api.Region {
	r.On = false
	return r
}

// wrong is numbers that are no cell, and wrongRadii such that are no radius.
func wrong() []int {
	return []int{-33, 32, -64, 64, 1 << 20, 1 << 32, 1<<32 + 5, -1 << 32, math.MinInt32, math.MaxInt32, math.MinInt, math.MinInt + 8, math.MaxInt, math.MaxInt - 8}
}

func wrongRadii() []int {
	return []int{-1, 9, -8, 10, 256, 1 << 32, 1<<32 + 5, -1 << 32, math.MinInt32, math.MaxInt32, math.MinInt, math.MaxInt}
}

// noRegions is all that can be wrong with a region, one by one and together.
func noRegions() []api.Region {
	var l []api.Region
	for _, n := range wrong() {
		l = append(l, on(n, 0, 0), on(0, n, 0), on(n, n, 8), on(n, -n, 1), on(31, n, 8), on(n, -32, 8), on(n, n, -1), on(0, n, n))
	}
	for _, n := range wrongRadii() {
		l = append(l, on(0, 0, n), on(31, 31, n), on(-32, -32, n), on(-32, 31, n), on(n+64, 0, n))
	}
	return l
}

func put(t *testing.T, g *cells.Grid, id api.ID, x, y int32) {
	t.Helper()
	if e := g.Put(id, x, y); e != api.OK {
		t.Fatalf("Put(%d, %d, %d) = %d", id, x, y, e)
	}
}

func mustBe(t *testing.T, got, want api.Region) {
	t.Helper()
	if got != want {
		t.Fatalf("the region %v, not %v", got, want)
	}
}

func mustSee(t *testing.T, r api.Region, x, y int32, want bool) {
	t.Helper()
	if view.Sees(r, x, y) != want {
		t.Fatalf("Sees(%v, %d, %d) = %v", r, x, y, !want)
	}
}

func mustTell(t *testing.T, what string, got []api.ID, want ...api.ID) {
	t.Helper()
	if !slices.Equal(got, want) {
		t.Fatalf("%s: %v, not %v", what, got, want)
	}
}

func mustHave(t *testing.T, r api.Region, want ...[2]int) {
	t.Helper()
	if got := view.Cells(r); !slices.Equal(got, want) {
		t.Fatalf("Cells(%v) = %v, not %v", r, got, want)
	}
}

func TestExample(t *testing.T) {
	r := view.Around(0, 0, 1)
	mustBe(t, r, api.Region{On: true, R: 1})
	mustHave(t, r, [2]int{-1, -1}, [2]int{-1, 0}, [2]int{-1, 1}, [2]int{0, -1}, [2]int{0, 0}, [2]int{0, 1}, [2]int{1, -1}, [2]int{1, 0}, [2]int{1, 1})
	mustHave(t, on(-32, -32, 1), [2]int{-32, -32}, [2]int{-32, -31}, [2]int{-31, -32}, [2]int{-31, -31})
	mustSee(t, r, -1, 16384, true)
	mustSee(t, r, 32768, 0, false)
}

// Check, P17.1.

func TestCheck(t *testing.T) {
	for cx := -32; cx <= 31; cx++ {
		for cy := -32; cy <= 31; cy++ {
			for r := range 9 {
				if e := view.Check(on(cx, cy, r)); e != api.OK {
					t.Fatalf("Check(%d, %d, %d) = %d", cx, cy, r, e)
				}
			}
		}
	}
}

// Whether it is On tells nothing of whether it is a region.
func TestCheckOfWhatIsNotOn(t *testing.T) {
	for _, r := range []api.Region{{}, {CX: 31, CY: -32, R: 8}, {CX: -32, CY: 31}, {R: 8}} {
		if e := view.Check(r); e != api.OK {
			t.Fatalf("Check(%v) = %d", r, e)
		}
	}
	for _, r := range noRegions() {
		if e := view.Check(off(r)); e != api.ErrArg {
			t.Fatalf("Check(%v) = %d", off(r), e)
		}
	}
}

func TestCheckWrong(t *testing.T) {
	for _, r := range noRegions() {
		if e := view.Check(r); e != api.ErrArg {
			t.Fatalf("Check(%v) = %d", r, e)
		}
	}
}

// Around, P17.1.

func TestAround(t *testing.T) {
	for _, x := range []struct {
		x, y   int32
		radius int
		want   api.Region
	}{
		{0, 0, 0, on(0, 0, 0)},
		{0, -1, 3, on(0, -1, 3)},
		{16383, 16384, 8, on(0, 1, 8)},
		{-16384, -16385, 1, on(-1, -2, 1)},
		{507903, -507904, 2, on(30, -31, 2)},
		{507904, -507905, 2, on(31, -32, 2)},
		{west, east, 7, on(-32, 31, 7)},
	} {
		mustBe(t, view.Around(x.x, x.y, x.radius), x.want)
	}
}

func TestAroundAtCornersAndBeyond(t *testing.T) {
	low := []int32{west, west + 16383, west - 1, -600000, math.MinInt32, math.MinInt32 + 1}
	high := []int32{east, east - 16383, east + 1, 600000, math.MaxInt32, math.MaxInt32 - 1}
	for _, lo := range low {
		for _, hi := range high {
			mustBe(t, view.Around(lo, lo, 1), on(-32, -32, 1))
			mustBe(t, view.Around(lo, hi, 1), on(-32, 31, 1))
			mustBe(t, view.Around(hi, lo, 1), on(31, -32, 1))
			mustBe(t, view.Around(hi, hi, 1), on(31, 31, 1))
			mustBe(t, view.Around(lo, 0, 1), on(-32, 0, 1))
			mustBe(t, view.Around(0, hi, 1), on(0, 31, 1))
		}
	}
}

func TestAroundRadius(t *testing.T) {
	for radius, want := range map[int]int{
		0: 0, 1: 1, 4: 4, 7: 7, 8: 8,
		-1: 0, -8: 0, math.MinInt32: 0, math.MinInt: 0, -1 << 32: 0,
		9: 8, 10: 8, 256: 8, 1 << 32: 8, math.MaxInt32: 8, math.MaxInt: 8,
	} {
		mustBe(t, view.Around(-1, 16384, radius), on(-1, 1, want))
		mustBe(t, view.Around(west-1, east+1, radius), on(-32, 31, want))
	}
}

// What is Around anything is a region.
func TestAroundIsARegion(t *testing.T) {
	d := dice(3)
	for range 2000 {
		r := view.Around(int32(d.throw(1<<31)-1<<30), int32(d.throw(1<<22)-1<<21), d.throw(30)-10)
		if view.Check(r) != api.OK || !r.On {
			t.Fatal(r)
		}
	}
}

// Sees, P17.2.

// Both sides of each edge of a region, the region's other way kept in its middle.
func TestSeesEdges(t *testing.T) {
	for _, c := range [][2]int{{0, 0}, {-5, 7}, {20, -20}, {-32, 31}, {31, -32}} {
		for radius := range 9 {
			r := on(c[0], c[1], radius)
			midX, midY := int32(c[0]*16384+8000), int32(c[1]*16384+8000)
			lowX, lowY := int32((c[0]-radius)*16384), int32((c[1]-radius)*16384)
			highX, highY := int32((c[0]+radius+1)*16384-1), int32((c[1]+radius+1)*16384-1)
			mustSee(t, r, midX, midY, true)
			mustSee(t, r, lowX, midY, true)
			mustSee(t, r, lowX-1, midY, false)
			mustSee(t, r, highX, midY, true)
			mustSee(t, r, highX+1, midY, false)
			mustSee(t, r, midX, lowY, true)
			mustSee(t, r, midX, lowY-1, false)
			mustSee(t, r, midX, highY, true)
			mustSee(t, r, midX, highY+1, false)
			mustSee(t, r, lowX, highY, true)
			mustSee(t, r, lowX-1, highY+1, false)
			mustSee(t, r, highX, lowY, true)
			mustSee(t, r, highX, lowY-1, false)
		}
	}
}

// A region that reaches over the world's end has cells there, too, and those it sees: only Cells tells of the world alone.
func TestSeesBeyondTheWorld(t *testing.T) {
	mustSee(t, on(31, 31, 1), east+1, east+1, true)
	mustSee(t, on(31, 31, 1), east+16384, east, true)
	mustSee(t, on(31, 31, 1), east+16385, east, false)
	mustSee(t, on(31, 31, 0), east+1, east, false)
	mustSee(t, on(-32, -32, 8), west-131072, west, true)
	mustSee(t, on(-32, -32, 8), west-131073, west, false)
	mustSee(t, on(-32, -32, 0), west, west-1, false)
	for _, x := range []int32{math.MinInt32, math.MaxInt32} {
		mustSee(t, on(0, 0, 8), x, 0, false)
		mustSee(t, on(0, 0, 8), 0, x, false)
		mustSee(t, on(31, -32, 8), x, x, false)
	}
}

// Cells, P17.2.

func TestCellsOfAllRegions(t *testing.T) {
	for cx := -32; cx <= 31; cx++ {
		for cy := -32; cy <= 31; cy++ {
			for radius := range 9 {
				var want [][2]int
				for x := -radius; x <= radius; x++ {
					for y := -radius; y <= radius; y++ {
						if at := [2]int{cx + x, cy + y}; at[0] >= -32 && at[0] <= 31 && at[1] >= -32 && at[1] <= 31 {
							want = append(want, at)
						}
					}
				}
				mustHave(t, on(cx, cy, radius), want...)
			}
		}
	}
}

func TestCellsOverTheEnd(t *testing.T) {
	mustHave(t, on(31, 31, 1), [2]int{30, 30}, [2]int{30, 31}, [2]int{31, 30}, [2]int{31, 31})
	mustHave(t, on(31, -32, 1), [2]int{30, -32}, [2]int{30, -31}, [2]int{31, -32}, [2]int{31, -31})
	mustHave(t, on(-32, 0, 1), [2]int{-32, -1}, [2]int{-32, 0}, [2]int{-32, 1}, [2]int{-31, -1}, [2]int{-31, 0}, [2]int{-31, 1})
	mustHave(t, on(-32, 31, 0), [2]int{-32, 31})
	if n := len(view.Cells(on(0, 0, 8))); n != 289 {
		t.Fatal(n)
	}
	if n := len(view.Cells(on(-32, 31, 8))); n != 81 {
		t.Fatal(n)
	}
}

// Of places in the world, what a region sees is what is in one of its cells.
func TestSeesWhatItsCellsHave(t *testing.T) {
	d := dice(5)
	for range 300 {
		r := view.Around(int32(d.throw(1<<20)-1<<19), int32(d.throw(1<<20)-1<<19), d.throw(9))
		l := view.Cells(r)
		for range 100 {
			x := int32(max(west, min(east, (r.CX+d.throw(21)-10)*16384+[]int{0, 16383}[d.throw(2)])))
			y := int32(max(west, min(east, (r.CY+d.throw(21)-10)*16384+[]int{0, 16383}[d.throw(2)])))
			mustSee(t, r, x, y, slices.Contains(l, [2]int{cells.Of(x), cells.Of(y)}))
		}
	}
}

// Visible, P17.2.

func TestVisible(t *testing.T) {
	g := cells.New()
	put(t, g, 9, 0, 0)
	put(t, g, 8, -16384, -1)
	put(t, g, 7, 32767, 32767)
	put(t, g, 6, 32768, 0)
	put(t, g, 5, 0, -16385)
	put(t, g, 4, 16384, 0)
	put(t, g, 3, 0, 32768)
	mustTell(t, "R 0", view.Visible(g, on(0, 0, 0)), 9)
	mustTell(t, "R 1", view.Visible(g, on(0, 0, 1)), 4, 7, 8, 9)
	mustTell(t, "R 2", view.Visible(g, on(0, 0, 2)), 3, 4, 5, 6, 7, 8, 9)
	mustTell(t, "elsewhere", view.Visible(g, on(20, 20, 8)))
}

func TestVisibleOverTheEnd(t *testing.T) {
	g := cells.New()
	put(t, g, 5, west, west)
	put(t, g, 4, west, east)
	put(t, g, 3, east, west)
	put(t, g, 2, east, east)
	for radius := range 9 {
		mustTell(t, "-32 -32", view.Visible(g, on(-32, -32, radius)), 5)
		mustTell(t, "-32 31", view.Visible(g, on(-32, 31, radius)), 4)
		mustTell(t, "31 -32", view.Visible(g, on(31, -32, radius)), 3)
		mustTell(t, "31 31", view.Visible(g, on(31, 31, radius)), 2)
	}
	mustTell(t, "from afar", view.Visible(g, on(-24, -24, 8)), 5)
	mustTell(t, "from too far", view.Visible(g, on(-23, -24, 8)))
}

// Who is visible is who is at a place that the region sees, wherever all go.
func TestVisibleAgainstModel(t *testing.T) {
	for seed := range 20 {
		d := dice(seed)
		g, where := cells.New(), [60][2]int32{}
		for range 300 {
			id := 1 + d.throw(59)
			if d.throw(4) == 0 {
				g.Drop(api.ID(id))
				where[id] = [2]int32{math.MinInt32, math.MinInt32}
			} else {
				where[id] = [2]int32{int32(d.throw(1<<20) - 1<<19), int32(d.throw(1<<20) - 1<<19)}
				put(t, g, api.ID(id), where[id][0], where[id][1])
			}
			r := view.Around(int32(d.throw(1<<20)-1<<19), int32(d.throw(1<<20)-1<<19), d.throw(9))
			var want []api.ID
			for id, at := range where {
				if _, _, there := g.Where(api.ID(id)); there && view.Sees(r, at[0], at[1]) {
					want = append(want, api.ID(id))
				}
			}
			mustTell(t, "Visible", view.Visible(g, r), want...)
		}
	}
}

// everywhere is a grid with somebody in each cell.
func everywhere(t *testing.T) *cells.Grid {
	t.Helper()
	g := cells.New()
	for i := range 64 * 64 {
		put(t, g, api.ID(5000-i), int32(i%64-32)*16384, int32(i/64-32)*16384)
	}
	return g
}

func mustHaveNothing(t *testing.T, g *cells.Grid, r api.Region) {
	t.Helper()
	mustHave(t, r)
	mustTell(t, "Visible", view.Visible(g, r))
	for _, x := range []int32{math.MinInt32, west, -1, 0, 8000, east, east + 1, math.MaxInt32} {
		for _, y := range []int32{math.MinInt32, west, -1, 0, 8000, east, east + 1, math.MaxInt32} {
			mustSee(t, r, x, y, false)
		}
	}
}

func TestWhatIsNoRegion(t *testing.T) {
	g := everywhere(t)
	for _, r := range noRegions() {
		mustHaveNothing(t, g, r)
		mustHaveNothing(t, g, off(r))
	}
}

func TestRegionThatIsNotOn(t *testing.T) {
	g := everywhere(t)
	for _, r := range []api.Region{{}, {R: 8}, {CX: 31, CY: -32, R: 8}, off(view.Around(0, 0, 1))} {
		mustHaveNothing(t, g, r)
	}
}

func TestNilGrid(t *testing.T) {
	for _, r := range []api.Region{{}, on(0, 0, 0), on(31, 31, 8), on(0, 0, 9), on(32, 0, 0), {CX: -99}} {
		mustTell(t, "Visible", view.Visible(nil, r))
	}
}

// What is handed in isn't changed: the grid tells what it told ahead of it.
func TestVisibleChangesNothing(t *testing.T) {
	g := everywhere(t)
	was := g.Box(-32, -32, 31, 31)
	for _, r := range append(noRegions(), on(0, 0, 8), on(-32, -32, 8), api.Region{}) {
		view.Visible(g, r)
	}
	mustTell(t, "all", g.Box(-32, -32, 31, 31), was...)
	if g.Len() != 4096 || g.Used() != 4096 {
		t.Fatal(g.Len(), g.Used())
	}
}

// What is handed out is the caller's.
func TestHandedOutIsTheCallers(t *testing.T) {
	g := everywhere(t)
	r := on(2, 3, 2)
	a, b := view.Visible(g, r), view.Visible(g, r)
	c, d := view.Cells(r), view.Cells(r)
	ids, at := slices.Clone(a), slices.Clone(c)
	put(t, g, 1, 2*16384, 3*16384)
	g.Drop(ids[0])
	mustTell(t, "behind later calls", a, ids...)
	g.Drop(1)
	x, y := r.CX+r.R, r.CY+r.R // the greatest cell of all has the least number
	put(t, g, ids[0], int32(x)*16384, int32(y)*16384)
	a, c = a[:cap(a)], c[:cap(c)]
	for i := range a {
		a[i] = 77
	}
	for i := range c {
		c[i] = [2]int{77, 77}
	}
	mustTell(t, "the other answer", b, ids...)
	mustTell(t, "asked again", view.Visible(g, r), ids...)
	mustHave(t, r, at...)
	if !slices.Equal(d, at) {
		t.Fatal(d)
	}
	if g.Len() != 4096 || g.Used() != 4096 {
		t.Fatal(g.Len(), g.Used())
	}
}

// The same asked again is answered the same (P2), in whichever order the cells were filled.
func TestSameTwice(t *testing.T) {
	g := everywhere(t)
	first := view.Visible(g, on(-3, 4, 8))
	if len(first) != 289 || !slices.IsSorted(first) {
		t.Fatal(first)
	}
	for range 20 {
		mustTell(t, "Visible", view.Visible(g, on(-3, 4, 8)), first...)
	}
}
