package cells_test

import (
	"maps"
	"math"
	"slices"
	"testing"

	"pinnace/api"
	"pinnace/cells"
	"pinnace/world"
)

const (
	west = -524288
	east = 524287
)

// cell is a cell's two numbers.
type cell [2]int

// dice throws the same numbers in every run.
type dice uint64

func (d *dice) throw(n int) int {
	*d = *d*6364136223846793005 + 1442695040888963407
	return int(uint64(*d) >> 33 % uint64(n))
}

// floor is the cell of a place, found another way than by whole numbers.
func floor(x int32) int { return int(math.Floor(float64(x) / 16384)) }

func put(t *testing.T, g *cells.Grid, id api.ID, x, y int32) {
	t.Helper()
	if e := g.Put(id, x, y); e != api.OK {
		t.Fatalf("Put(%d, %d, %d) = %d", id, x, y, e)
	}
}

func drop(t *testing.T, g *cells.Grid, id api.ID) {
	t.Helper()
	if e := g.Drop(id); e != api.OK {
		t.Fatalf("Drop(%d) = %d", id, e)
	}
}

func mustTell(t *testing.T, what string, got []api.ID, want ...api.ID) {
	t.Helper()
	if !slices.Equal(got, want) {
		t.Fatalf("%s: %v, not %v", what, got, want)
	}
}

// crowds is who is in which cell, by rising IDs.
func crowds(want map[api.ID]cell) map[cell][]api.ID {
	l := map[cell][]api.ID{}
	for _, id := range slices.Sorted(maps.Keys(want)) {
		l[want[id]] = append(l[want[id]], id)
	}
	return l
}

// mustHold asks for everything that g tells, of the cells outside the world that touch it, too.
func mustHold(t *testing.T, g *cells.Grid, want map[api.ID]cell) {
	t.Helper()
	in := crowds(want)
	if g.Len() != len(want) || g.Used() != len(in) {
		t.Fatalf("Len %d, Used %d, not %d, %d", g.Len(), g.Used(), len(want), len(in))
	}
	for id, at := range want {
		if x, y, ok := g.Where(id); (cell{x, y}) != at || !ok {
			t.Fatalf("Where(%d) = %d, %d, %v, not %v", id, x, y, ok, at)
		}
	}
	for x := -33; x <= 32; x++ {
		for y := -33; y <= 32; y++ {
			if l := g.At(x, y); !slices.Equal(l, in[cell{x, y}]) {
				t.Fatalf("At(%d, %d) = %v, not %v", x, y, l, in[cell{x, y}])
			}
		}
	}
	mustTell(t, "all", g.Box(-32, -32, 31, 31), slices.Sorted(maps.Keys(want))...)
}

func mustBeNowhere(t *testing.T, g *cells.Grid, ids ...api.ID) {
	t.Helper()
	for _, id := range ids {
		if x, y, ok := g.Where(id); x != 0 || y != 0 || ok {
			t.Fatalf("Where(%d) = %d, %d, %v", id, x, y, ok)
		}
		if e := g.Drop(id); e != api.ErrDead {
			t.Fatalf("Drop(%d) = %d", id, e)
		}
	}
}

func TestExample(t *testing.T) {
	g := cells.New()
	put(t, g, 1024, 0, -1)
	mustHold(t, g, map[api.ID]cell{1024: {0, -1}})
	put(t, g, 1024, 16384, 0)
	mustHold(t, g, map[api.ID]cell{1024: {1, 0}})
	mustTell(t, "all", g.Box(-32, -32, 31, 31), 1024)
}

// Of, P16.1.

func TestOf(t *testing.T) {
	for _, x := range []struct {
		x int32
		n int
	}{
		{0, 0}, {1, 0}, {16383, 0}, {16384, 1}, {16385, 1}, {32767, 1}, {32768, 2},
		{-1, -1}, {-2, -1}, {-16383, -1}, {-16384, -1}, {-16385, -2}, {-32768, -2}, {-32769, -3},
		{east, 31}, {east + 1, 32}, {507904, 31}, {507903, 30},
		{west, -32}, {west - 1, -33}, {-507904, -31}, {-507905, -32},
		{math.MaxInt32, 131071}, {math.MaxInt32 - 16383, 131071}, {math.MaxInt32 - 16384, 131070},
		{math.MinInt32, -131072}, {math.MinInt32 + 16383, -131072}, {math.MinInt32 + 16384, -131071},
	} {
		if n := cells.Of(x.x); n != x.n {
			t.Errorf("Of(%d) = %d, not %d", x.x, n, x.n)
		}
	}
}

// Of both ends of every cell that an int32 reaches.
func TestOfAllCells(t *testing.T) {
	for n := -131072; n <= 131071; n++ {
		for _, x := range []int{0, 1, 8191, 16382, 16383} {
			if got := cells.Of(int32(n*16384 + x)); got != n {
				t.Fatalf("Of(%d) = %d, not %d", n*16384+x, got, n)
			}
		}
	}
}

// New, P16.1.

func TestNew(t *testing.T) {
	g := cells.New()
	if g == nil {
		t.Fatal("none")
	}
	mustHold(t, g, nil)
	mustBeNowhere(t, g, 0, 1, 1024, math.MaxUint32)
}

func TestTwoGrids(t *testing.T) {
	a, b := cells.New(), cells.New()
	put(t, a, 7, 0, 0)
	mustHold(t, b, nil)
	put(t, b, 7, -1, -1)
	put(t, b, 8, 0, 0)
	drop(t, b, 7)
	mustHold(t, a, map[api.ID]cell{7: {0, 0}})
	mustHold(t, b, map[api.ID]cell{8: {0, 0}})
}

// Put, P16.1.

func TestPutAtTheEnds(t *testing.T) {
	for _, x := range []int32{west, west + 16383, west + 16384, -1, 0, east - 16384, east - 16383, east} {
		for _, y := range []int32{west, -16384, -1, 0, 16383, east} {
			g := cells.New()
			put(t, g, 9, x, y)
			mustHold(t, g, map[api.ID]cell{9: {floor(x), floor(y)}})
		}
	}
}

// The two numbers are not taken for each other.
func TestPutWhichWay(t *testing.T) {
	g := cells.New()
	put(t, g, 1, east, west)
	put(t, g, 2, west, east)
	mustHold(t, g, map[api.ID]cell{1: {31, -32}, 2: {-32, 31}})
	mustTell(t, "At(31, -32)", g.At(31, -32), 1)
	mustTell(t, "Box(31, -32, 31, -32)", g.Box(31, -32, 31, -32), 1)
	mustTell(t, "Box(-32, 0, -32, 31)", g.Box(-32, 0, -32, 31), 2)
}

// Any ID but 0 may be put, whatever its generation is.
func TestPutAnyID(t *testing.T) {
	g := cells.New()
	want := map[api.ID]cell{}
	for _, id := range []api.ID{1, 2, 1023, 1024, 1025, 1<<31 - 1, 1 << 31, math.MaxUint32 - 1, math.MaxUint32} {
		put(t, g, id, 5, 5)
		want[id] = cell{0, 0}
	}
	mustHold(t, g, want)
	mustTell(t, "At(0, 0)", g.At(0, 0), 1, 2, 1023, 1024, 1025, 1<<31-1, 1<<31, math.MaxUint32-1, math.MaxUint32)
}

func TestPutAgain(t *testing.T) {
	g := cells.New()
	put(t, g, 5, 0, 0)
	put(t, g, 5, 0, 0)
	mustHold(t, g, map[api.ID]cell{5: {0, 0}})
	put(t, g, 5, 16383, 16383)
	mustHold(t, g, map[api.ID]cell{5: {0, 0}})
	put(t, g, 5, 16384, 16383)
	mustHold(t, g, map[api.ID]cell{5: {1, 0}})
	put(t, g, 5, 16384, 16384)
	mustHold(t, g, map[api.ID]cell{5: {1, 1}})
	put(t, g, 5, 1, 2)
	mustHold(t, g, map[api.ID]cell{5: {0, 0}})
	drop(t, g, 5)
	mustHold(t, g, nil)
}

// Who goes and comes touches nobody else in its cells.
func TestPutAgainBesideOthers(t *testing.T) {
	g := cells.New()
	put(t, g, 4, 0, 0)
	put(t, g, 5, 1, 1)
	put(t, g, 6, -1, 0)
	put(t, g, 5, 2, 2)
	mustHold(t, g, map[api.ID]cell{4: {0, 0}, 5: {0, 0}, 6: {-1, 0}})
	put(t, g, 5, -2, 2)
	mustHold(t, g, map[api.ID]cell{4: {0, 0}, 5: {-1, 0}, 6: {-1, 0}})
	put(t, g, 4, -3, 3)
	mustHold(t, g, map[api.ID]cell{4: {-1, 0}, 5: {-1, 0}, 6: {-1, 0}})
	put(t, g, 5, 2, 2)
	mustHold(t, g, map[api.ID]cell{4: {-1, 0}, 5: {0, 0}, 6: {-1, 0}})
}

// A cell that becomes empty isn't used any more, and may be used again.
func TestCellUsedAgain(t *testing.T) {
	g := cells.New()
	for range 3 {
		put(t, g, 4, 0, 0)
		put(t, g, 5, 0, 0)
		drop(t, g, 4)
		mustHold(t, g, map[api.ID]cell{5: {0, 0}})
		drop(t, g, 5)
		mustHold(t, g, nil)
		put(t, g, 6, 7, 7)
		mustHold(t, g, map[api.ID]cell{6: {0, 0}})
		put(t, g, 6, -7, 7)
		mustHold(t, g, map[api.ID]cell{6: {-1, 0}})
		drop(t, g, 6)
	}
}

// ErrArg goes ahead of ErrRange, and beside an error who was there stays where it was.
func TestPutWrong(t *testing.T) {
	for _, x := range []struct {
		id   api.ID
		x, y int32
		e    api.Errno
	}{
		{0, 0, 0, api.ErrArg},
		{0, east, west, api.ErrArg},
		{0, east + 1, 0, api.ErrArg},
		{0, 0, west - 1, api.ErrArg},
		{0, math.MinInt32, math.MaxInt32, api.ErrArg},
		{5, east + 1, 0, api.ErrRange},
		{5, 0, east + 1, api.ErrRange},
		{5, west - 1, 0, api.ErrRange},
		{5, 0, west - 1, api.ErrRange},
		{5, east + 1, west - 1, api.ErrRange},
		{5, math.MaxInt32, 0, api.ErrRange},
		{5, 0, math.MaxInt32, api.ErrRange},
		{5, math.MinInt32, 0, api.ErrRange},
		{5, 0, math.MinInt32, api.ErrRange},
		{7, east + 1, 0, api.ErrRange},
		{math.MaxUint32, 0, west - 1, api.ErrRange},
	} {
		g := cells.New()
		put(t, g, 5, -1, 16384)
		if e := g.Put(x.id, x.x, x.y); e != x.e {
			t.Errorf("Put(%d, %d, %d) = %d, not %d", x.id, x.x, x.y, e, x.e)
		}
		mustHold(t, g, map[api.ID]cell{5: {-1, 1}})
		mustBeNowhere(t, g, 0, 7, math.MaxUint32)
	}
}

// Drop, P16.1.

func TestDrop(t *testing.T) {
	g := cells.New()
	put(t, g, 4, 0, 0)
	put(t, g, 5, 0, 0)
	put(t, g, 6, 20000, 0)
	drop(t, g, 5)
	mustHold(t, g, map[api.ID]cell{4: {0, 0}, 6: {1, 0}})
	mustBeNowhere(t, g, 5)
	drop(t, g, 6)
	mustHold(t, g, map[api.ID]cell{4: {0, 0}})
	mustBeNowhere(t, g, 5, 6)
	put(t, g, 5, -1, -1)
	mustHold(t, g, map[api.ID]cell{4: {0, 0}, 5: {-1, -1}})
}

func TestDropWrong(t *testing.T) {
	g := cells.New()
	put(t, g, 1024, -1, 16384)
	// Its slot under another generation is somebody else.
	mustBeNowhere(t, g, 0, 1, 1023, 1025, 2048, math.MaxUint32)
	mustHold(t, g, map[api.ID]cell{1024: {-1, 1}})
	drop(t, g, 1024)
	mustBeNowhere(t, g, 1024)
	mustHold(t, g, nil)
}

// Where, At, Box, Len, Used, P16.2.

// Beside false nothing is told of where it was.
func TestWhereOfNobody(t *testing.T) {
	g := cells.New()
	put(t, g, 5, east, west)
	mustBeNowhere(t, g, 0, 4, 6)
	drop(t, g, 5)
	mustBeNowhere(t, g, 0, 4, 5, 6)
}

func TestAtOutsideTheWorld(t *testing.T) {
	g := cells.New()
	id := api.ID(0)
	for _, x := range []int32{west, 0, east} {
		for _, y := range []int32{west, 0, east} {
			id++
			put(t, g, id, x, y)
		}
	}
	out := []int{-33, 32, -64, 64, 1 << 16, 1 << 32, 1<<32 - 1, 1<<32 + 31, -1 << 32, math.MinInt32, math.MaxInt32, math.MinInt, math.MinInt + 32, math.MaxInt, math.MaxInt - 31}
	for _, x := range out {
		for _, y := range append([]int{-32, 0, 31}, out...) {
			mustTell(t, "At", g.At(x, y))
			mustTell(t, "At", g.At(y, x))
		}
	}
}

func TestAtByRisingIDs(t *testing.T) {
	g := cells.New()
	for _, id := range []api.ID{9, 2, 1 << 31, 7, 3, math.MaxUint32, 1, 8} {
		put(t, g, id, 3, -3)
	}
	for range 50 {
		mustTell(t, "At", g.At(0, -1), 1, 2, 3, 7, 8, 9, 1<<31, math.MaxUint32)
	}
}

// Rising IDs go over all cells: not cell by cell.
func TestBoxByRisingIDs(t *testing.T) {
	g := cells.New()
	for i, id := range []api.ID{9, 2, 1 << 31, 7, 3, math.MaxUint32, 1, 8} {
		put(t, g, id, int32(i%3)*16384, int32(i%2)*16384)
	}
	for range 50 {
		mustTell(t, "Box", g.Box(0, 0, 2, 1), 1, 2, 3, 7, 8, 9, 1<<31, math.MaxUint32)
	}
}

// neighbours is a grid with one in each cell of a square about 0 0; number tells who is in which.
func neighbours(t *testing.T) *cells.Grid {
	t.Helper()
	g := cells.New()
	for x := -2; x <= 2; x++ {
		for y := -2; y <= 2; y++ {
			put(t, g, number(x, y), int32(x)*16384, int32(y)*16384+16383)
		}
	}
	return g
}

func number(x, y int) api.ID { return api.ID(100 + 10*x + y) }

// Both ends count, of every box among the neighbours; of a box whose ends stand the wrong way round nobody is told.
func TestBoxEnds(t *testing.T) {
	g := neighbours(t)
	ends := []int{-3, -2, -1, 0, 1, 2, 3}
	for _, x0 := range ends {
		for _, x1 := range ends {
			for _, y0 := range ends {
				for _, y1 := range ends {
					var want []api.ID
					for x := max(x0, -2); x <= min(x1, 2); x++ {
						for y := max(y0, -2); y <= min(y1, 2); y++ {
							want = append(want, number(x, y))
						}
					}
					if got := g.Box(x0, y0, x1, y1); !slices.Equal(got, want) {
						t.Fatalf("Box(%d, %d, %d, %d) = %v, not %v", x0, y0, x1, y1, got, want)
					}
				}
			}
		}
	}
}

func TestBoxOfOneCell(t *testing.T) {
	g := neighbours(t)
	put(t, g, 7, -1, -1)
	mustTell(t, "Box(-1, -1, -1, -1)", g.Box(-1, -1, -1, -1), 7, number(-1, -1))
	mustTell(t, "Box(5, 5, 5, 5)", g.Box(5, 5, 5, 5))
}

// corners is a grid with one in the middle and one in each corner of the world.
func corners(t *testing.T) *cells.Grid {
	t.Helper()
	g := cells.New()
	put(t, g, 5, west, west)
	put(t, g, 4, west, east)
	put(t, g, 3, east, west)
	put(t, g, 2, east, east)
	put(t, g, 1, 0, 0)
	return g
}

func TestBoxOfAllCells(t *testing.T) {
	g := corners(t)
	mustTell(t, "all", g.Box(-32, -32, 31, 31), 1, 2, 3, 4, 5)
	mustTell(t, "without the lowest of x", g.Box(-31, -32, 31, 31), 1, 2, 3)
	mustTell(t, "without the lowest of y", g.Box(-32, -31, 31, 31), 1, 2, 4)
	mustTell(t, "without the highest of x", g.Box(-32, -32, 30, 31), 1, 4, 5)
	mustTell(t, "without the highest of y", g.Box(-32, -32, 31, 30), 1, 3, 5)
}

func TestBoxFarOutside(t *testing.T) {
	g := corners(t)
	for _, lo := range []int{-33, -1 << 20, math.MinInt32, math.MinInt32 - 1, math.MinInt} {
		for _, hi := range []int{32, 1 << 20, math.MaxInt32, math.MaxInt32 + 1, math.MaxInt} {
			mustTell(t, "beyond both ends", g.Box(lo, lo, hi, hi), 1, 2, 3, 4, 5)
			mustTell(t, "one row", g.Box(lo, 31, hi, 31), 2, 4)
			mustTell(t, "one column", g.Box(-32, lo, -32, hi), 4, 5)
			mustTell(t, "the wrong way round", g.Box(hi, hi, lo, lo))
			mustTell(t, "x the wrong way round", g.Box(hi, lo, lo, hi))
			mustTell(t, "y the wrong way round", g.Box(lo, hi, hi, lo))
			mustTell(t, "all below", g.Box(lo, lo, -33, hi))
			mustTell(t, "all above", g.Box(lo, 32, hi, hi))
			mustTell(t, "one cell below", g.Box(lo, lo, lo, lo))
			mustTell(t, "one cell above", g.Box(hi, hi, hi, hi))
		}
	}
	mustTell(t, "the wrong way round", g.Box(31, 31, -32, -32))
	mustTell(t, "the wrong way round", g.Box(1, 0, 0, 0))
}

func TestUsed(t *testing.T) {
	g := cells.New()
	for i := range 64 * 64 {
		put(t, g, api.ID(i+1), int32(i%64-32)*16384, int32(i/64-32)*16384)
	}
	if g.Len() != 4096 || g.Used() != 4096 || len(g.Box(-32, -32, 31, 31)) != 4096 {
		t.Fatal(g.Len(), g.Used())
	}
	for i := range 64 * 64 {
		put(t, g, api.ID(i+1), -1, -1)
	}
	if g.Len() != 4096 || g.Used() != 1 || len(g.At(-1, -1)) != 4096 {
		t.Fatal(g.Len(), g.Used())
	}
}

// A nil object, P16.2: ErrNone goes ahead of all else.
func TestNil(t *testing.T) {
	var g *cells.Grid
	for _, id := range []api.ID{0, 1, 1024, math.MaxUint32} {
		for _, x := range []int32{0, east, east + 1, math.MinInt32} {
			if e := g.Put(id, x, x); e != api.ErrNone {
				t.Fatalf("Put(%d, %d, %d) = %d", id, x, x, e)
			}
		}
		if e := g.Drop(id); e != api.ErrNone {
			t.Fatalf("Drop(%d) = %d", id, e)
		}
		if x, y, ok := g.Where(id); x != 0 || y != 0 || ok {
			t.Fatalf("Where(%d) = %d, %d, %v", id, x, y, ok)
		}
	}
	mustTell(t, "At", g.At(0, 0))
	mustTell(t, "Box", g.Box(-32, -32, 31, 31))
	mustTell(t, "Box", g.Box(math.MinInt, math.MinInt, math.MaxInt, math.MaxInt))
	if g.Len() != 0 || g.Used() != 0 {
		t.Fatal(g.Len(), g.Used())
	}
}

// scribble writes over a list and its spare room.
func scribble(l []api.ID) {
	l = l[:cap(l)]
	for i := range l {
		l[i] = 77
	}
}

// What is handed out is the caller's: later calls don't change it, and writing over it changes neither the grid nor another answer.
func TestHandedOutIsTheCallers(t *testing.T) {
	g := cells.New()
	want := map[api.ID]cell{}
	for i := range 20 {
		put(t, g, api.ID(20-i), int32(i%2)*16384, 0)
		want[api.ID(20-i)] = cell{i % 2, 0}
	}
	at, box, again := g.At(0, 0), g.Box(0, 0, 1, 0), g.Box(0, 0, 1, 0)
	was := [][]api.ID{slices.Clone(at), slices.Clone(box)}
	put(t, g, 21, 0, 0)
	drop(t, g, 2)
	put(t, g, 4, -1, -1)
	if !slices.Equal(at, was[0]) || !slices.Equal(box, was[1]) {
		t.Fatal("it was changed behind the call", at, box)
	}
	drop(t, g, 21)
	put(t, g, 2, 0, 0)
	put(t, g, 4, 0, 0)
	scribble(at)
	scribble(box)
	if !slices.Equal(again, was[1]) {
		t.Fatal("two answers share something", again)
	}
	scribble(again)
	mustHold(t, g, want)
	mustTell(t, "At(0, 0)", g.At(0, 0), was[0]...)
}

// Asking changes nothing.
func TestAskingChangesNothing(t *testing.T) {
	g := corners(t)
	g.At(1, 1)
	g.At(-33, 99)
	g.Box(math.MinInt, math.MinInt, math.MaxInt, math.MaxInt)
	g.Where(99)
	mustHold(t, g, map[api.ID]cell{5: {-32, -32}, 4: {-32, 31}, 3: {31, -32}, 2: {31, 31}, 1: {0, 0}})
}

// throwPlace is a place near a cell's end, somewhere in the world or a little beyond it.
func throwPlace(d *dice) int32 {
	return int32([]int{-33, -32, -31, -1, 0, 1, 30, 31, 32}[d.throw(9)]*16384 + []int{0, 1, 16382, 16383}[d.throw(4)])
}

func inside(x int32) bool { return x >= west && x <= east }

// Long scripts against a plain model: where each one is, and nothing else.
func TestAgainstModel(t *testing.T) {
	for seed := range 20 {
		d := dice(seed)
		g, want := cells.New(), map[api.ID]cell{}
		for step := range 600 {
			id, x, y := api.ID(d.throw(12)), throwPlace(&d), throwPlace(&d)
			_, there := want[id]
			if d.throw(3) == 0 {
				e := map[bool]api.Errno{true: api.OK, false: api.ErrDead}[there]
				if got := g.Drop(id); got != e {
					t.Fatalf("seed %d step %d: Drop(%d) = %d, not %d", seed, step, id, got, e)
				}
				delete(want, id)
				continue
			}
			e := api.OK
			switch {
			case id == 0:
				e = api.ErrArg
			case !inside(x) || !inside(y):
				e = api.ErrRange
			default:
				want[id] = cell{floor(x), floor(y)}
			}
			if got := g.Put(id, x, y); got != e {
				t.Fatalf("seed %d step %d: Put(%d, %d, %d) = %d, not %d", seed, step, id, x, y, got, e)
			}
			if step%20 == 0 {
				mustHold(t, g, want)
				mustBox(t, g, want, &d)
			}
		}
		mustHold(t, g, want)
	}
}

// mustBox asks for some boxes.
func mustBox(t *testing.T, g *cells.Grid, in map[api.ID]cell, d *dice) {
	t.Helper()
	for range 20 {
		x0, y0 := d.throw(70)-35, d.throw(70)-35
		x1, y1 := x0+d.throw(40)-3, y0+d.throw(40)-3
		var want []api.ID
		for _, id := range slices.Sorted(maps.Keys(in)) {
			if at := in[id]; x0 <= at[0] && at[0] <= x1 && y0 <= at[1] && at[1] <= y1 {
				want = append(want, id)
			}
		}
		if got := g.Box(x0, y0, x1, y1); !slices.Equal(got, want) {
			t.Fatalf("Box(%d, %d, %d, %d) = %v, not %v", x0, y0, x1, y1, got, want)
		}
	}
}

// The same script twice is answered the same (P2), and how it came about isn't seen.
func TestSameTwice(t *testing.T) {
	up, down := cells.New(), cells.New()
	for i := range 300 {
		put(t, up, api.ID(i+1), int32(i%7)*16384, int32(i%5)*16384)
		put(t, down, api.ID(300-i), east, east)
		put(t, down, api.ID(300-i), int32((299-i)%7)*16384, int32((299-i)%5)*16384)
	}
	for range 10 {
		mustTell(t, "Box", up.Box(0, 0, 6, 4), down.Box(0, 0, 6, 4)...)
		mustTell(t, "Box", up.Box(1, 1, 3, 2), down.Box(1, 1, 3, 2)...)
		mustTell(t, "At", up.At(3, 4), down.At(3, 4)...)
	}
	if up.Used() != down.Used() || up.Len() != down.Len() {
		t.Fatal(up.Used(), down.Used())
	}
}

// Who is in which cell is who is there (P3): a grid that is told a world's places holds who has a pos.
func TestGridOfAWorld(t *testing.T) {
	w, _ := world.New(40, 1, 0)
	g, d := cells.New(), dice(1)
	for range 150 {
		at := api.Comp{Kind: api.Pos, F: [3]int32{int32(d.throw(1<<20) - 1<<19), int32(d.throw(1<<20) - 1<<19)}}
		by := api.Comp{Kind: api.Vel, F: [3]int32{int32(d.throw(1<<16) - 1<<15), int32(d.throw(1<<16) - 1<<15)}}
		life := api.Comp{Kind: api.Life, F: [3]int32{int32(d.throw(30))}}
		w.Push(api.Order{Do: api.DoSpawn, Comps: []api.Comp{at, by, life}})
		if l := w.List(); len(l) > 0 {
			w.Push(api.Order{Do: api.DoRemove, ID: l[d.throw(len(l))].ID, Kind: api.Pos})
		}
		w.Step()
		for _, p := range w.Places() {
			if p.On {
				put(t, g, p.ID, p.X, p.Y)
			} else {
				drop(t, g, p.ID)
			}
		}
		want := map[api.ID]cell{}
		for _, ent := range w.List() {
			if c := ent.Comps[0]; c.Kind == api.Pos {
				want[ent.ID] = cell{floor(c.F[0]), floor(c.F[1])}
			}
		}
		mustHold(t, g, want)
	}
}
