package schema_test

import (
	"math"
	"slices"
	"testing"

	"pinnace/api"
	"pinnace/nums"
	"pinnace/schema"
)

// field and kind are the document's table once more, by hand.
type field struct {
	name   string
	lo, hi int32
	width  int
}

type kind struct {
	kind   byte
	name   string
	told   bool
	bits   int
	fields []field
}

func kinds() []kind {
	return []kind{
		{0, "pos", true, 40, []field{{"x", -524288, 524287, 20}, {"y", -524288, 524287, 20}}},
		{1, "vel", true, 32, []field{{"dx", -32768, 32767, 16}, {"dy", -32768, 32767, 16}}},
		{2, "life", true, 12, []field{{"left", 0, 4095, 12}}},
		{3, "body", true, 21, []field{{"shape", 0, 15, 4}, {"hp", 0, 1000, 10}, {"size", 1, 100, 7}}},
		{4, "tag", true, 16, []field{{"team", 0, 7, 3}, {"color", 0, 255, 8}, {"flags", 0, 31, 5}}},
		{5, "spawn", false, 20, []field{{"every", 1, 255, 8}, {"left", 0, 254, 8}, {"shape", 0, 15, 4}}},
	}
}

// least is the component of the kind whose fields are all at the beginning of their ranges.
func (k kind) least() api.Comp {
	c := api.Comp{Kind: k.kind}
	for i, f := range k.fields {
		c.F[i] = f.lo
	}
	return c
}

// with is c with another field i.
func with(c api.Comp, i int, n int32) api.Comp {
	c.F[i] = n
	return c
}

func comp(kind byte, f ...int32) api.Comp {
	c := api.Comp{Kind: kind}
	copy(c.F[:], f)
	return c
}

func TestKinds(t *testing.T) {
	for _, k := range kinds() {
		if n := schema.Count(k.kind); n != len(k.fields) {
			t.Error(k.name, "has", n, "fields")
		}
		if s := schema.Name(k.kind); s != k.name {
			t.Error(k.name, "is called", s)
		}
		if schema.Told(k.kind) != k.told {
			t.Error(k.name, "told", !k.told)
		}
		if n := schema.Bits(k.kind); n != k.bits {
			t.Error(k.name, "has", n, "bits")
		}
		if x, ok := schema.Kind(k.name); x != k.kind || !ok {
			t.Error(k.name, "is the kind", x, ok)
		}
	}
}

func TestFields(t *testing.T) {
	for _, k := range kinds() {
		sum := 0
		for i, f := range k.fields {
			if s := schema.Field(k.kind, i); s != f.name {
				t.Error(k.name, i, "is called", s)
			}
			lo, hi, e := schema.Range(k.kind, i)
			if lo != f.lo || hi != f.hi || e != api.OK {
				t.Error(k.name, f.name, lo, hi, e)
			}
			if nums.Width(int64(lo), int64(hi)) != f.width {
				t.Error(k.name, f.name, "isn't of", f.width, "bits")
			}
			sum += f.width
		}
		if schema.Bits(k.kind) != sum {
			t.Error(k.name, "isn't of its fields' bits")
		}
	}
}

// The numbers and limits of api are the document's.
func TestNumbersOfKinds(t *testing.T) {
	for i, x := range []string{api.Pos: "pos", api.Vel: "vel", api.Life: "life", api.Body: "body", api.Tag: "tag", api.Spawn: "spawn"} {
		if schema.Name(byte(i)) != x {
			t.Error(i, x)
		}
	}
	if api.Kinds != len(kinds()) {
		t.Error(api.Kinds)
	}
}

func TestKindsThatThereAreNot(t *testing.T) {
	for k := api.Kinds; k <= math.MaxUint8; k++ {
		x := byte(k)
		if schema.Count(x) != 0 || schema.Name(x) != "" || schema.Told(x) || schema.Bits(x) != 0 {
			t.Error("of the kind", x)
		}
		for _, i := range []int{-1, 0, 1, 2, 3} {
			noField(t, x, i)
		}
	}
}

func noField(t *testing.T, kind byte, i int) {
	t.Helper()
	if s := schema.Field(kind, i); s != "" {
		t.Error("kind", kind, "field", i, "is called", s)
	}
	if lo, hi, e := schema.Range(kind, i); lo != 0 || hi != 0 || e != api.ErrArg {
		t.Error("kind", kind, "field", i, lo, hi, e)
	}
}

func TestFieldsThatThereAreNot(t *testing.T) {
	for _, k := range kinds() {
		n := len(k.fields)
		for _, i := range []int{-1, -2, -256, math.MinInt, math.MinInt32, n, n + 1, 3, 4, 256, math.MaxInt32, math.MaxInt, 1 << 32, 1<<32 + 1} {
			noField(t, k.kind, i)
		}
	}
}

func TestNamesThatAreNone(t *testing.T) {
	for _, s := range []string{"", " ", "x", "left", "Pos", "POS", "pos ", " pos", "po", "poss", "pos\x00", "lif", "lives", "kind", "0", "spawns", "\xff", "p\u043es"} {
		if k, ok := schema.Kind(s); k != 0 || ok {
			t.Errorf("%q is the kind %d", s, k)
		}
	}
}

func TestCheckExamples(t *testing.T) {
	for _, x := range []struct {
		c api.Comp
		e api.Errno
	}{
		{comp(api.Body, 3, 0, 5), api.OK},
		{comp(api.Body, 3, 1001, 5), api.ErrRange},
		{comp(api.Life, 3, 1), api.ErrForm},
	} {
		if e := schema.Check(x.c); e != x.e {
			t.Error(x.c, e)
		}
	}
}

func TestCheckRanges(t *testing.T) {
	for _, k := range kinds() {
		for i, f := range k.fields {
			for _, x := range []struct {
				n int32
				e api.Errno
			}{
				{f.lo, api.OK}, {f.lo + 1, api.OK}, {f.hi - 1, api.OK}, {f.hi, api.OK},
				{f.lo - 1, api.ErrRange}, {f.hi + 1, api.ErrRange},
				{math.MinInt32, api.ErrRange}, {math.MaxInt32, api.ErrRange},
			} {
				if e := schema.Check(with(k.least(), i, x.n)); e != x.e {
					t.Error(k.name, f.name, x.n, e)
				}
			}
		}
	}
}

func TestCheckFieldsThatThereAreNot(t *testing.T) {
	for _, k := range kinds() {
		for i := len(k.fields); i < api.Fields; i++ {
			for _, n := range []int32{1, -1, math.MinInt32, math.MaxInt32, 1 << 16, 1 << 8} {
				if e := schema.Check(with(k.least(), i, n)); e != api.ErrForm {
					t.Error(k.name, i, n, e)
				}
			}
		}
	}
}

// ErrArg goes ahead of ErrForm, and that ahead of ErrRange.
func TestCheckWhichErrorGoesFirst(t *testing.T) {
	for _, x := range []struct {
		c api.Comp
		e api.Errno
	}{
		{comp(6), api.ErrArg},
		{comp(6, 1, 1, 1), api.ErrArg},
		{comp(7, math.MinInt32, 0, math.MaxInt32), api.ErrArg},
		{comp(128), api.ErrArg},
		{comp(255, -1), api.ErrArg},
		{comp(api.Life, 4096, 1), api.ErrForm},
		{comp(api.Life, -1, 0, -1), api.ErrForm},
		{comp(api.Life, 4096), api.ErrRange},
		{comp(api.Pos, api.Far, 0, 1), api.ErrForm},
		{comp(api.Pos, api.Far, -api.Far-1), api.ErrRange},
		{comp(api.Vel, 0, 32768, -1), api.ErrForm},
		{comp(api.Body), api.ErrRange},
		{comp(api.Spawn), api.ErrRange},
		{comp(api.Tag), api.OK},
	} {
		if e := schema.Check(x.c); e != x.e {
			t.Error(x.c, e)
		}
	}
}

// all is a component of each kind, by rising kinds.
func all() []api.Comp {
	l := []api.Comp(nil)
	for _, k := range kinds() {
		l = append(l, k.least())
	}
	return l
}

// some are those of all whose bit stands in the mask.
func some(mask int) []api.Comp {
	l := []api.Comp{}
	for i, c := range all() {
		if mask>>i&1 == 1 {
			l = append(l, c)
		}
	}
	return l
}

func TestListAndMaskOfAnyKinds(t *testing.T) {
	for mask := range 1 << api.Kinds {
		l := some(mask)
		if e := schema.List(l); e != api.OK {
			t.Error(mask, e)
		}
		if m := schema.Mask(l); m != byte(mask) {
			t.Error(mask, m)
		}
		slices.Reverse(l)
		fine := api.ErrForm
		if len(l) < 2 {
			fine = api.OK
		}
		if e := schema.List(l); e != fine {
			t.Error("falling", mask, e)
		}
		if m := schema.Mask(append(l, l...)); m != byte(mask) {
			t.Error("twice and falling", mask, m)
		}
	}
}

func TestListAndMaskOfNone(t *testing.T) {
	for _, l := range [][]api.Comp{nil, {}} {
		if e := schema.List(l); e != api.OK {
			t.Error(e)
		}
		if m := schema.Mask(l); m != 0 {
			t.Error(m)
		}
	}
}

func TestListOfTwoKinds(t *testing.T) {
	for _, a := range all() {
		for _, b := range all() {
			want := api.OK
			if b.Kind <= a.Kind {
				want = api.ErrForm
			}
			if e := schema.List([]api.Comp{a, b}); e != want {
				t.Error(a.Kind, b.Kind, e)
			}
		}
	}
}

// It is the first one from the front that tells, and of that one Check's error goes ahead.
func TestListWhichErrorGoesFirst(t *testing.T) {
	pos, life, tag := comp(api.Pos), comp(api.Life), comp(api.Tag)
	none, form, outside := comp(6), comp(api.Life, 0, 1), comp(api.Tag, 8)
	for _, x := range []struct {
		l []api.Comp
		e api.Errno
	}{
		{[]api.Comp{none}, api.ErrArg},
		{[]api.Comp{form}, api.ErrForm},
		{[]api.Comp{outside}, api.ErrRange},
		{[]api.Comp{pos, none, form}, api.ErrArg},
		{[]api.Comp{form, none}, api.ErrForm},
		{[]api.Comp{outside, none}, api.ErrRange},
		{[]api.Comp{outside, form}, api.ErrRange},
		{[]api.Comp{pos, life, outside}, api.ErrRange},
		{[]api.Comp{pos, life, none}, api.ErrArg},
		{[]api.Comp{tag, outside}, api.ErrRange},
		{[]api.Comp{tag, comp(api.Pos, api.Far)}, api.ErrRange},
		{[]api.Comp{tag, comp(api.Body)}, api.ErrRange},
		{[]api.Comp{tag, tag, none}, api.ErrForm},
		{[]api.Comp{life, pos, outside}, api.ErrForm},
		{[]api.Comp{life, tag, pos, none}, api.ErrForm},
		{[]api.Comp{pos, tag, life, tag}, api.ErrForm},
		{[]api.Comp{pos, life, life, tag}, api.ErrForm},
		{[]api.Comp{pos, comp(api.Pos, 1)}, api.ErrForm},
		{[]api.Comp{none, none}, api.ErrArg},
		{[]api.Comp{comp(7), none}, api.ErrArg},
	} {
		if e := schema.List(x.l); e != x.e {
			t.Error(x.l, e)
		}
	}
}

// Kinds that there are not have no bit, and a mask asks for nothing else.
func TestMaskOfWhatIsNoComponent(t *testing.T) {
	for k := api.Kinds; k <= math.MaxUint8; k++ {
		if m := schema.Mask([]api.Comp{comp(byte(k)), comp(api.Vel), comp(byte(k))}); m != 2 {
			t.Error(k, m)
		}
	}
	if m := schema.Mask([]api.Comp{comp(api.Body, -1, 9999, 0), comp(api.Life, 0, 1)}); m != 12 {
		t.Error(m)
	}
	if m := schema.Mask([]api.Comp{comp(api.Pos), comp(api.Tag)}); m != 17 {
		t.Error(m)
	}
}

func TestListsAreNeitherChangedNorKept(t *testing.T) {
	room := append(all(), comp(9, 9, 9, 9), comp(8))
	was := slices.Clone(room)
	l := room[:api.Kinds]
	if schema.List(l) != api.OK || schema.Mask(l) != 63 {
		t.Fatal(l)
	}
	if !slices.Equal(room, was) {
		t.Fatal("it was written over", room)
	}
	clear(room)
	if e := schema.List(all()); e != api.OK {
		t.Fatal(e)
	}
	if m := schema.Mask(l[:1]); m != 1 {
		t.Fatal(m)
	}
}
