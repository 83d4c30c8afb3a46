package table_test

import (
	"math"
	"slices"
	"testing"

	"pinnace/api"
	"pinnace/schema"
	"pinnace/table"
)

const (
	a api.ID = 1024
	b api.ID = 1025
	c api.ID = 2050
	d api.ID = math.MaxUint32
)

func comp(kind byte, f ...int32) api.Comp {
	x := api.Comp{Kind: kind}
	copy(x.F[:], f)
	return x
}

func life(left int32) api.Comp { return comp(api.Life, left) }

func pos(x, y int32) api.Comp { return comp(api.Pos, x, y) }

// sample is components of a make, whose fields hang on n (0 to 30) and differ from kind to kind.
func sample(mask byte, n int32) []api.Comp {
	all := []api.Comp{
		pos(-500000-n, 500000+n), comp(api.Vel, -300-n, 400+n), life(500 + n),
		comp(api.Body, n%16, 600+n, 1+n), comp(api.Tag, n%8, 70+n, 31-n), comp(api.Spawn, 80+n, 90+n, 15-n%16),
	}
	var l []api.Comp
	for kind, x := range all {
		if mask>>kind&1 == 1 {
			l = append(l, x)
		}
	}
	return l
}

func mustNew(t *testing.T, mask byte) *table.Table {
	t.Helper()
	x, e := table.New(mask)
	if x == nil || e != api.OK {
		t.Fatalf("New(%d) = %v, %d", mask, x, e)
	}
	return x
}

func mustAdd(t *testing.T, x *table.Table, id api.ID, l ...api.Comp) {
	t.Helper()
	if e := x.Add(id, l); e != api.OK {
		t.Fatalf("Add(%d, %v) = %d", id, l, e)
	}
}

func mustSet(t *testing.T, x *table.Table, id api.ID, v api.Comp) {
	t.Helper()
	if e := x.Set(id, v); e != api.OK {
		t.Fatalf("Set(%d, %v) = %d", id, v, e)
	}
}

func mustRemove(t *testing.T, x *table.Table, id api.ID, want ...api.Comp) {
	t.Helper()
	if l, e := x.Remove(id); e != api.OK || !slices.Equal(l, want) {
		t.Fatalf("Remove(%d) = %v, %d, not %v", id, l, e, want)
	}
}

func mustBeGone(t *testing.T, x *table.Table, id api.ID) {
	t.Helper()
	if row, ok := x.Row(id); row != 0 || ok {
		t.Fatalf("Row(%d) = %d, %t", id, row, ok)
	}
	for kind := range byte(api.Kinds + 1) {
		if v, e := x.Get(id, kind); v != (api.Comp{}) || e != api.ErrDead {
			t.Fatalf("Get(%d, %d) = %v, %d, not ErrDead", id, kind, v, e)
		}
	}
	if l, e := x.Remove(id); len(l) != 0 || e != api.ErrDead {
		t.Fatalf("Remove(%d) = %v, %d, not ErrDead", id, l, e)
	}
}

// mustTell asks for everything that x tells of how it stands, and of what isn't there beside it.
func mustTell(t *testing.T, x *table.Table, mask byte, want ...api.Ent) {
	t.Helper()
	if x.Mask() != mask || x.Len() != len(want) {
		t.Fatalf("Mask, Len = %d, %d, not %d, %d", x.Mask(), x.Len(), mask, len(want))
	}
	ids := x.IDs()
	if len(ids) != len(want) {
		t.Fatalf("IDs = %d, not those of %v", ids, want)
	}
	for row, ent := range want {
		if ids[row] != ent.ID {
			t.Fatalf("IDs = %d, not those of %v", ids, want)
		}
		mustTellRow(t, x, row, ent)
	}
	for _, row := range []int{math.MinInt, -1, len(want), len(want) + 1, math.MaxInt} {
		if ent, ok := x.At(row); ent.ID != 0 || len(ent.Comps) != 0 || ok {
			t.Fatalf("At(%d) of %d rows = %v, %t", row, len(want), ent, ok)
		}
	}
}

func mustTellRow(t *testing.T, x *table.Table, row int, want api.Ent) {
	t.Helper()
	if ent, ok := x.At(row); !ok || ent.ID != want.ID || !slices.Equal(ent.Comps, want.Comps) {
		t.Fatalf("At(%d) = %v, %t, not %v", row, ent, ok, want)
	}
	if r, ok := x.Row(want.ID); r != row || !ok {
		t.Fatalf("Row(%d) = %d, %t, not %d", want.ID, r, ok, row)
	}
	at := 0
	for kind := range byte(api.Kinds + 2) {
		v, e := x.Get(want.ID, kind)
		if at < len(want.Comps) && want.Comps[at].Kind == kind {
			if v != want.Comps[at] || e != api.OK {
				t.Fatalf("Get(%d, %d) = %v, %d, not %v", want.ID, kind, v, e, want.Comps[at])
			}
			at++
		} else if v != (api.Comp{}) || e != api.ErrNone {
			t.Fatalf("Get(%d, %d) = %v, %d, not ErrNone", want.ID, kind, v, e)
		}
	}
}

func ent(id api.ID, l ...api.Comp) api.Ent { return api.Ent{ID: id, Comps: l} }

func TestNew(t *testing.T) {
	for mask := range 256 {
		x, e := table.New(byte(mask))
		if mask >= 64 {
			if x != nil || e != api.ErrArg {
				t.Errorf("New(%d) = %v, %d, not nil, ErrArg", mask, x, e)
			}
			continue
		}
		if x == nil || e != api.OK {
			t.Fatalf("New(%d) = %v, %d", mask, x, e)
		}
		mustTell(t, x, byte(mask))
		for _, id := range []api.ID{0, 1, a, d} {
			mustBeGone(t, x, id)
		}
	}
}

func TestExample(t *testing.T) {
	x := mustNew(t, 1<<api.Life)
	mustAdd(t, x, a, life(1))
	mustAdd(t, x, b, life(2))
	mustAdd(t, x, c, life(3))
	mustRemove(t, x, a, life(1))
	if l := x.IDs(); !slices.Equal(l, []api.ID{c, b}) {
		t.Fatalf("IDs = %d", l)
	}
	mustTell(t, x, 4, ent(c, life(3)), ent(b, life(2)))
}

func TestMakeOfNothing(t *testing.T) {
	x := mustNew(t, 0)
	mustAdd(t, x, a)
	if e := x.Add(b, []api.Comp{}); e != api.OK {
		t.Fatalf("Add(b, empty) = %d", e)
	}
	mustAdd(t, x, c)
	mustTell(t, x, 0, ent(a), ent(b), ent(c))
	for kind := range byte(api.Kinds) {
		l := sample(1<<kind, 0)
		if e := x.Add(d, l); e != api.ErrForm {
			t.Errorf("Add(%v) = %d, not ErrForm", l, e)
		}
		if e := x.Set(a, l[0]); e != api.ErrNone {
			t.Errorf("Set(%v) = %d, not ErrNone", l[0], e)
		}
	}
	mustRemove(t, x, b)
	mustTell(t, x, 0, ent(a), ent(c))
	mustRemove(t, x, a)
	mustRemove(t, x, c)
	mustTell(t, x, 0)
}

func TestEveryMake(t *testing.T) {
	for mask := range byte(64) {
		x := mustNew(t, mask)
		rows := []api.Ent{}
		for n, id := range []api.ID{a, b, c, d} {
			rows = append(rows, ent(id, sample(mask, int32(n))...))
			mustAdd(t, x, id, rows[n].Comps...)
			mustTell(t, x, mask, rows...)
		}
		for kind := range byte(api.Kinds) {
			mustSetOne(t, x, rows, 2, sample(1<<kind, 7)[0])
			mustTell(t, x, mask, rows...)
		}
		mustRemove(t, x, b, rows[1].Comps...)
		rows[1] = rows[3]
		mustTell(t, x, mask, rows[:3]...)
		mustBeGone(t, x, b)
	}
}

// mustSetOne sets v where the make has its kind, in rows as well, and must be refused where it hasn't.
func mustSetOne(t *testing.T, x *table.Table, rows []api.Ent, row int, v api.Comp) {
	t.Helper()
	i := slices.IndexFunc(rows[row].Comps, func(w api.Comp) bool { return w.Kind == v.Kind })
	if i < 0 {
		if e := x.Set(rows[row].ID, v); e != api.ErrNone {
			t.Fatalf("Set(%v) = %d, not ErrNone", v, e)
		}
		return
	}
	mustSet(t, x, rows[row].ID, v)
	rows[row].Comps[i] = v
}

func TestKindsThatAreNone(t *testing.T) {
	x := mustNew(t, 63)
	mustAdd(t, x, a, sample(63, 1)...)
	for kind := api.Kinds; kind < 256; kind++ {
		if v, e := x.Get(a, byte(kind)); v != (api.Comp{}) || e != api.ErrNone {
			t.Errorf("Get(a, %d) = %v, %d, not ErrNone", kind, v, e)
		}
		if e := x.Set(a, comp(byte(kind))); e != api.ErrArg {
			t.Errorf("Set(a, kind %d) = %d, not ErrArg", kind, e)
		}
	}
	mustTell(t, x, 63, ent(a, sample(63, 1)...))
}

// Each field at both ends of its range comes back as it was.
func TestEndsOfRanges(t *testing.T) {
	for kind := range byte(api.Kinds) {
		low, high := comp(kind), comp(kind)
		for i := range schema.Count(kind) {
			low.F[i], high.F[i], _ = schema.Range(kind, i)
		}
		x := mustNew(t, 1<<kind)
		mustAdd(t, x, a, low)
		mustAdd(t, x, b, high)
		mustTell(t, x, 1<<kind, ent(a, low), ent(b, high))
		mustSet(t, x, a, high)
		mustSet(t, x, b, low)
		mustTell(t, x, 1<<kind, ent(a, high), ent(b, low))
		mustRemove(t, x, a, high)
		mustRemove(t, x, b, low)
	}
}

// A table asks nothing of an ID but that it is another than those that stand there.
func TestAnyID(t *testing.T) {
	x := mustNew(t, 1<<api.Life)
	ids := []api.ID{0, 1, 1023, 1024, 2048, 1<<31 - 1, 1 << 31, d}
	var rows []api.Ent
	for n, id := range ids {
		mustAdd(t, x, id, life(int32(n)))
		rows = append(rows, ent(id, life(int32(n))))
	}
	mustTell(t, x, 4, rows...)
	mustRemove(t, x, 0, life(0))
	mustBeGone(t, x, 0)
}

func TestAddErrors(t *testing.T) {
	p, l := pos(1, 2), life(3)
	x := mustNew(t, 1<<api.Pos|1<<api.Life)
	mustAdd(t, x, a, p, l)
	for _, w := range []struct {
		name string
		id   api.ID
		l    []api.Comp
		want api.Errno
	}{
		{"no such kind", b, []api.Comp{comp(api.Kinds)}, api.ErrArg},
		{"no such kind, the greatest", b, []api.Comp{p, l, comp(255)}, api.ErrArg},
		{"a field that the kind hasn't", b, []api.Comp{p, comp(api.Life, 3, 1)}, api.ErrForm},
		{"outside", b, []api.Comp{p, life(4096)}, api.ErrRange},
		{"outside, in the first", b, []api.Comp{pos(-api.Far-1, 0), l}, api.ErrRange},
		{"falling", b, []api.Comp{l, p}, api.ErrForm},
		{"twice the same kind", b, []api.Comp{p, l, l}, api.ErrForm},
		{"nothing", b, nil, api.ErrForm},
		{"empty", b, []api.Comp{}, api.ErrForm},
		{"too few", b, []api.Comp{l}, api.ErrForm},
		{"too few, the other", b, []api.Comp{p}, api.ErrForm},
		{"too many", b, []api.Comp{p, comp(api.Vel), l}, api.ErrForm},
		{"as many, but others", b, []api.Comp{comp(api.Vel), l}, api.ErrForm},
		{"there already", a, []api.Comp{p, l}, api.ErrTwice},
		{"there already, and other fields", a, []api.Comp{pos(9, 9), life(9)}, api.ErrTwice},
		// Of several, the one that goes first: List's, the make's, the ID's.
		{"outside ahead of no such kind", b, []api.Comp{pos(api.Far, 0), comp(api.Kinds)}, api.ErrRange},
		{"outside, of another make", b, []api.Comp{life(-1)}, api.ErrRange},
		{"no such kind, of another make", b, []api.Comp{comp(api.Kinds)}, api.ErrArg},
		{"no such kind behind the right make, there already", a, []api.Comp{p, l, comp(api.Kinds)}, api.ErrArg},
		{"outside, there already", a, []api.Comp{p, life(4096)}, api.ErrRange},
		{"falling, there already", a, []api.Comp{l, p}, api.ErrForm},
		{"of another make, there already", a, []api.Comp{l}, api.ErrForm},
		{"nothing, there already", a, nil, api.ErrForm},
	} {
		if e := x.Add(w.id, w.l); e != w.want {
			t.Errorf("%s: Add = %d, not %d", w.name, e, w.want)
		}
		mustTell(t, x, 5, ent(a, p, l))
		mustBeGone(t, x, b)
	}
}

func TestGetErrors(t *testing.T) {
	x := mustNew(t, 1<<api.Life)
	mustAdd(t, x, a, life(1))
	mustAdd(t, x, b, life(2))
	mustRemove(t, x, b, life(2))
	for _, w := range []struct {
		id   api.ID
		kind byte
		want api.Errno
	}{
		{a, api.Pos, api.ErrNone}, {a, api.Vel, api.ErrNone}, {a, api.Spawn, api.ErrNone},
		{a, api.Kinds, api.ErrNone}, {a, api.Life + 8, api.ErrNone}, {a, 255, api.ErrNone},
		{b, api.Life, api.ErrDead}, {c, api.Life, api.ErrDead}, {0, api.Life, api.ErrDead},
		{b, api.Pos, api.ErrDead}, {c, api.Pos, api.ErrDead}, {c, api.Kinds, api.ErrDead}, {c, 255, api.ErrDead},
	} {
		if v, e := x.Get(w.id, w.kind); v != (api.Comp{}) || e != w.want {
			t.Errorf("Get(%d, %d) = %v, %d, not nothing, %d", w.id, w.kind, v, e, w.want)
		}
	}
}

func TestSetErrors(t *testing.T) {
	x := mustNew(t, 1<<api.Life)
	mustAdd(t, x, a, life(1))
	mustAdd(t, x, b, life(2))
	mustRemove(t, x, b, life(2))
	for _, w := range []struct {
		name string
		id   api.ID
		v    api.Comp
		want api.Errno
	}{
		{"no such kind", a, comp(api.Kinds), api.ErrArg},
		{"a field that the kind hasn't", a, comp(api.Life, 3, 0, 1), api.ErrForm},
		{"outside, below", a, life(-1), api.ErrRange},
		{"outside, above", a, life(4096), api.ErrRange},
		{"gone", b, life(3), api.ErrDead},
		{"never there", c, life(3), api.ErrDead},
		{"not of the make", a, pos(1, 1), api.ErrNone},
		{"no such kind, never there", c, comp(255), api.ErrArg},
		{"a stray field, gone", b, comp(api.Life, 3, 1), api.ErrForm},
		{"outside, gone", b, life(4096), api.ErrRange},
		{"outside, not of the make", a, pos(api.Far, 0), api.ErrRange},
		{"a stray field, not of the make", a, comp(api.Pos, 0, 0, 1), api.ErrForm},
		{"outside, not of the make, never there", c, pos(0, api.Far), api.ErrRange},
		{"gone, not of the make", b, pos(1, 1), api.ErrDead},
		{"never there, not of the make", c, pos(1, 1), api.ErrDead},
	} {
		if e := x.Set(w.id, w.v); e != w.want {
			t.Errorf("%s: Set = %d, not %d", w.name, e, w.want)
		}
		mustTell(t, x, 4, ent(a, life(1)))
	}
}

func TestSet(t *testing.T) {
	x := mustNew(t, 1<<api.Pos|1<<api.Life)
	for n, id := range []api.ID{a, b, c} {
		mustAdd(t, x, id, pos(int32(n), 5), life(int32(n)))
	}
	mustSet(t, x, b, life(70))
	mustTell(t, x, 5, ent(a, pos(0, 5), life(0)), ent(b, pos(1, 5), life(70)), ent(c, pos(2, 5), life(2)))
	mustSet(t, x, b, life(70))
	mustSet(t, x, a, pos(8, -8))
	mustSet(t, x, c, life(0))
	mustTell(t, x, 5, ent(a, pos(8, -8), life(0)), ent(b, pos(1, 5), life(70)), ent(c, pos(2, 5), life(0)))
	mustRemove(t, x, a, pos(8, -8), life(0))
	mustSet(t, x, c, life(9))
	mustTell(t, x, 5, ent(c, pos(2, 5), life(9)), ent(b, pos(1, 5), life(70)))
}

func four(t *testing.T) *table.Table {
	t.Helper()
	x := mustNew(t, 1<<api.Life)
	for n, id := range []api.ID{a, b, c, d} {
		mustAdd(t, x, id, life(int32(n)))
	}
	return x
}

func TestRemove(t *testing.T) {
	for _, w := range []struct {
		name string
		id   api.ID
		n    int32
		left []api.Ent
	}{
		{"the first", a, 0, []api.Ent{ent(d, life(3)), ent(b, life(1)), ent(c, life(2))}},
		{"one between", b, 1, []api.Ent{ent(a, life(0)), ent(d, life(3)), ent(c, life(2))}},
		{"the last but one", c, 2, []api.Ent{ent(a, life(0)), ent(b, life(1)), ent(d, life(3))}},
		{"the last", d, 3, []api.Ent{ent(a, life(0)), ent(b, life(1)), ent(c, life(2))}},
	} {
		t.Run(w.name, func(t *testing.T) {
			x := four(t)
			mustRemove(t, x, w.id, life(w.n))
			mustBeGone(t, x, w.id)
			mustTell(t, x, 4, w.left...)
			mustAdd(t, x, w.id, life(99))
			mustTell(t, x, 4, append(w.left, ent(w.id, life(99)))...)
		})
	}
}

func TestRemoveOnly(t *testing.T) {
	x := mustNew(t, 1<<api.Life)
	for n := range int32(3) {
		mustAdd(t, x, a, life(n))
		mustTell(t, x, 4, ent(a, life(n)))
		mustRemove(t, x, a, life(n))
		mustBeGone(t, x, a)
		mustTell(t, x, 4)
	}
}

func TestRemoveErrors(t *testing.T) {
	x := four(t)
	mustRemove(t, x, b, life(1))
	for _, id := range []api.ID{0, 1, b, b + 1024, d - 1} {
		mustBeGone(t, x, id)
	}
	mustTell(t, x, 4, ent(a, life(0)), ent(d, life(3)), ent(c, life(2)))
}

func TestNil(t *testing.T) {
	var x *table.Table
	for _, l := range [][]api.Comp{nil, {life(1)}, {comp(9)}, {life(5000)}} {
		if e := x.Add(a, l); e != api.ErrNone {
			t.Errorf("Add(%v) = %d", l, e)
		}
	}
	for _, v := range []api.Comp{life(1), comp(9), life(5000), comp(api.Life, 1, 1)} {
		if e := x.Set(a, v); e != api.ErrNone {
			t.Errorf("Set(%v) = %d", v, e)
		}
	}
	for kind := range 256 {
		if v, e := x.Get(a, byte(kind)); v != (api.Comp{}) || e != api.ErrNone {
			t.Errorf("Get(%d) = %v, %d", kind, v, e)
		}
	}
	if l, e := x.Remove(a); len(l) != 0 || e != api.ErrNone {
		t.Errorf("Remove = %v, %d", l, e)
	}
	if row, ok := x.Row(a); row != 0 || ok {
		t.Errorf("Row = %d, %t", row, ok)
	}
	mustTell(t, x, 0)
}

// full is l's memory with its spare room.
func full[T any](l []T) []T { return l[:cap(l)] }

func TestHandedInIsNeitherChangedNorKept(t *testing.T) {
	x := mustNew(t, 63)
	room := make([]api.Comp, 10)
	for i := range room {
		room[i] = comp(200, 1, 2, 3)
	}
	l := append(room[:0], sample(63, 4)...)
	was := slices.Clone(full(l))
	mustAdd(t, x, a, l...)
	if e := x.Add(b, l[:6]); e != api.OK {
		t.Fatal(e)
	}
	if e := x.Add(b, l[:6]); e != api.ErrTwice {
		t.Fatal(e)
	}
	if !slices.Equal(full(l), was) {
		t.Fatalf("what was handed in is %v, not %v", full(l), was)
	}
	clear(full(l))
	mustTell(t, x, 63, ent(a, was[:6]...), ent(b, was[:6]...))
	mustSet(t, x, a, life(1))
	mustRemove(t, x, b, was[:6]...)
	for _, v := range full(l) {
		if v != (api.Comp{}) {
			t.Fatalf("what was handed in was written behind the call: %v", full(l))
		}
	}
}

// spoil writes over all of an answer's memory.
func spoil(ids []api.ID, l []api.Comp) {
	for i := range full(ids) {
		full(ids)[i] = 777
	}
	for i := range full(l) {
		full(l)[i] = comp(99, -1, -1, -1)
	}
}

func TestHandedOutMayBeWrittenOver(t *testing.T) {
	x := mustNew(t, 63)
	rows := []api.Ent{}
	for n, id := range []api.ID{a, b, c, d} {
		rows = append(rows, ent(id, sample(63, int32(n))...))
		mustAdd(t, x, id, rows[n].Comps...)
	}
	for range 2 {
		first, again := entAt(t, x, 0), entAt(t, x, 0)
		spoil(x.IDs(), first.Comps)
		if !slices.Equal(again.Comps, rows[0].Comps) {
			t.Fatalf("one answer wrote over another: %v", again)
		}
		mustTell(t, x, 63, rows...)
		last := rows[len(rows)-1]
		l, e := x.Remove(last.ID)
		if e != api.OK {
			t.Fatal(e)
		}
		spoil(nil, l)
		rows = rows[:len(rows)-1]
		mustTell(t, x, 63, rows...)
		mustAdd(t, x, last.ID, last.Comps...)
		rows = append(rows, last)
		spoil(x.IDs(), nil)
		mustTell(t, x, 63, rows...)
	}
}

func TestHandedOutDoesNotChange(t *testing.T) {
	x := mustNew(t, 1<<api.Pos|1<<api.Life)
	for n, id := range []api.ID{a, b, c} {
		mustAdd(t, x, id, pos(int32(n), 5), life(int32(n)))
	}
	ids, first := x.IDs(), entAt(t, x, 0)
	v, _ := x.Get(a, api.Life)
	wasIDs, wasFirst := slices.Clone(full(ids)), slices.Clone(full(first.Comps))
	mustSet(t, x, a, life(50))
	out, _ := x.Remove(a)
	wasOut := slices.Clone(full(out))
	mustAdd(t, x, d, pos(7, 7), life(7))
	mustSet(t, x, c, pos(6, 6))
	mustAdd(t, x, a, pos(8, 8), life(8))
	if !slices.Equal(full(ids), wasIDs) || !slices.Equal(full(first.Comps), wasFirst) || !slices.Equal(full(out), wasOut) || v != life(0) {
		t.Fatalf("changed: %v, %v, %v, %v", full(ids), full(first.Comps), full(out), v)
	}
}

func entAt(t *testing.T, x *table.Table, row int) api.Ent {
	t.Helper()
	v, ok := x.At(row)
	if !ok {
		t.Fatalf("At(%d): none", row)
	}
	return v
}

func TestTablesShareNothing(t *testing.T) {
	x, y := mustNew(t, 4), mustNew(t, 4)
	mustAdd(t, x, a, life(1))
	mustTell(t, y, 4)
	mustAdd(t, y, b, life(2))
	mustAdd(t, y, a, life(3))
	mustTell(t, x, 4, ent(a, life(1)))
	mustRemove(t, x, a, life(1))
	mustTell(t, y, 4, ent(b, life(2)), ent(a, life(3)))
}

// model is a table as the chapter's words have it, without columns and without a map.
type model struct{ rows []api.Ent }

func (m *model) find(id api.ID) int {
	return slices.IndexFunc(m.rows, func(x api.Ent) bool { return x.ID == id })
}

func (m *model) add(id api.ID, v api.Comp) api.Errno {
	if m.find(id) >= 0 {
		return api.ErrTwice
	}
	m.rows = append(m.rows, ent(id, v))
	return api.OK
}

func (m *model) set(id api.ID, v api.Comp) api.Errno {
	row := m.find(id)
	if row < 0 {
		return api.ErrDead
	}
	m.rows[row].Comps = []api.Comp{v}
	return api.OK
}

func (m *model) remove(id api.ID) ([]api.Comp, api.Errno) {
	row := m.find(id)
	if row < 0 {
		return nil, api.ErrDead
	}
	out, end := m.rows[row].Comps, len(m.rows)-1
	m.rows[row] = m.rows[end]
	m.rows = m.rows[:end]
	return out, api.OK
}

// both does one thing (0 add, 1 set, 2 remove) to a table of lives and to its model.
func both(t *testing.T, x *table.Table, m *model, do int, id api.ID, v api.Comp) {
	t.Helper()
	var e, want api.Errno
	var l, wantList []api.Comp
	switch do {
	case 0:
		e, want = x.Add(id, []api.Comp{v}), m.add(id, v)
	case 1:
		e, want = x.Set(id, v), m.set(id, v)
	case 2:
		l, e = x.Remove(id)
		wantList, want = m.remove(id)
	}
	if e != want || !slices.Equal(l, wantList) {
		t.Fatalf("%d of %d: %v, %d, not %v, %d", do, id, l, e, wantList, want)
	}
}

func TestEveryShortScript(t *testing.T) {
	const steps, ways = 5, 9
	ids := []api.ID{a, b, c}
	for script := range ways * ways * ways * ways * ways {
		x, m := mustNew(t, 4), &model{}
		for step := range steps {
			both(t, x, m, script%ways/3, ids[script%3], life(int32(step)))
			script /= ways
		}
		mustTell(t, x, 4, m.rows...)
	}
}

// Every order in which five rows can be taken out.
func TestEveryOrderOut(t *testing.T) {
	var goOn func(order, left []api.ID)
	goOn = func(order, left []api.ID) {
		if len(left) == 0 {
			mustGoOut(t, order)
		}
		for i, id := range left {
			goOn(append(slices.Clone(order), id), slices.Delete(slices.Clone(left), i, i+1))
		}
	}
	goOn(nil, []api.ID{0, 1, 2, 3, 4})
}

func mustGoOut(t *testing.T, order []api.ID) {
	t.Helper()
	x, m := mustNew(t, 4), &model{}
	for id := range api.ID(5) {
		both(t, x, m, 0, id, life(int32(id)))
	}
	for _, id := range order {
		both(t, x, m, 2, id, api.Comp{})
		mustTell(t, x, 4, m.rows...)
		mustBeGone(t, x, id)
	}
}

func TestManyRows(t *testing.T) {
	x, m := mustNew(t, 4), &model{}
	const many = 3000
	for id := range api.ID(many) {
		both(t, x, m, 0, id*1024, life(int32(id)))
	}
	mustTell(t, x, 4, m.rows...)
	// 1103 and many have no common divisor: each row is met once, in no plain order.
	for i := range api.ID(many) {
		id := i * 1103 % many * 1024
		both(t, x, m, 2, id, api.Comp{})
		both(t, x, m, int(i%3), id, life(int32(i)))
		both(t, x, m, 1, id+1024, life(int32(i)))
		if i%100 == 0 {
			mustTell(t, x, 4, m.rows...)
		}
	}
	mustTell(t, x, 4, m.rows...)
	for id := range api.ID(many) {
		both(t, x, m, 2, id*1024, api.Comp{})
	}
	mustTell(t, x, 4)
}
