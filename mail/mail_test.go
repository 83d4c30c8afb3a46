package mail_test

import (
	"math"
	"runtime"
	"slices"
	"testing"
	"time"
	"weak"

	"pinnace/api"
	"pinnace/mail"
)

func mustNew(t *testing.T, n int) *mail.Box[int] {
	t.Helper()
	b, e := mail.New[int](n)
	if b == nil || e != api.OK {
		t.Fatalf("New(%d) = %v, %d", n, b, e)
	}
	return b
}

// boxOf is a box with room for n things, in which these wait.
func boxOf(t *testing.T, n int, things ...int) *mail.Box[int] {
	t.Helper()
	b := mustNew(t, n)
	for _, v := range things {
		mustPut(t, b, v)
	}
	return b
}

func mustPut(t *testing.T, b *mail.Box[int], v int) {
	t.Helper()
	if e := b.Put(v); e != api.OK {
		t.Fatalf("Put(%d) = %d", v, e)
	}
}

func mustBeFull(t *testing.T, b *mail.Box[int]) {
	t.Helper()
	if e := b.Put(77); e != api.ErrFull {
		t.Fatalf("Put = %d, not ErrFull", e)
	}
}

func mustTake(t *testing.T, b *mail.Box[int], want int) {
	t.Helper()
	if v, ok := b.Take(); v != want || !ok {
		t.Fatalf("Take = %d, %v, not %d", v, ok, want)
	}
}

func mustBeEmpty(t *testing.T, b *mail.Box[int]) {
	t.Helper()
	if v, ok := b.Take(); v != 0 || ok {
		t.Fatalf("Take = %d, %v, though nothing waits", v, ok)
	}
}

func mustCount(t *testing.T, b *mail.Box[int], length, room int) {
	t.Helper()
	if b.Len() != length || b.Room() != room {
		t.Fatalf("Len = %d, Room = %d, not %d, %d", b.Len(), b.Room(), length, room)
	}
}

func mustAll(t *testing.T, b *mail.Box[int], want ...int) {
	t.Helper()
	if l := b.All(); !slices.Equal(l, want) {
		t.Fatalf("All = %d, not %d", l, want)
	}
}

// inTime fails, rather than wait for ever, if one of the calls of f waits.
func inTime(t *testing.T, f func()) {
	t.Helper()
	done := make(chan struct{})
	go func() {
		defer close(done)
		f()
	}()
	select {
	case <-done:
	case <-time.After(20 * time.Second):
		t.Fatal("a call waits")
	}
}

func TestExample(t *testing.T) {
	b := mustNew(t, 2)
	mustPut(t, b, 1)
	mustPut(t, b, 2)
	mustBeFull(t, b)
	mustTake(t, b, 1)
	mustPut(t, b, 3)
	mustAll(t, b, 2, 3)
	mustBeEmpty(t, b)
}

func TestNewEdges(t *testing.T) {
	for _, n := range []int{1, 2, 255, 256} {
		b := mustNew(t, n)
		mustCount(t, b, 0, n)
		mustBeEmpty(t, b)
		mustAll(t, b)
	}
}

func TestNewOfWhatThereIsNot(t *testing.T) {
	for _, n := range []int{0, -1, -256, 257, 258, 512, math.MinInt, math.MinInt32, math.MaxInt32, math.MaxInt, 1<<32 + 1} {
		if b, e := mail.New[int](n); b != nil || e != api.ErrArg {
			t.Errorf("New(%d) = %v, %d", n, b, e)
		}
	}
}

// A box that is filled, emptied one by one, filled again, and emptied at once.
func TestFullAndEmptiedAndFilledAgain(t *testing.T) {
	for _, n := range []int{1, 2, 3, api.MaxMail - 1, api.MaxMail} {
		b := mustNew(t, n)
		for i := range n {
			mustCount(t, b, i, n-i)
			mustPut(t, b, 100+i)
		}
		mustCount(t, b, n, 0)
		mustBeFull(t, b)
		mustBeFull(t, b)
		mustCount(t, b, n, 0)
		for i := range n {
			mustTake(t, b, 100+i)
			mustCount(t, b, n-i-1, i+1)
		}
		mustBeEmpty(t, b)
		mustCount(t, b, 0, n)
		want := []int{}
		for i := range n {
			mustPut(t, b, 500+i)
			want = append(want, 500+i)
		}
		mustBeFull(t, b)
		mustAll(t, b, want...)
		mustCount(t, b, 0, n)
		mustAll(t, b)
		mustPut(t, b, 9)
		mustTake(t, b, 9)
		mustBeEmpty(t, b)
	}
}

// Nothing of what is refused comes in, and nothing goes for it.
func TestRefusedThingsAreNotThere(t *testing.T) {
	b := boxOf(t, 2, 1, 2)
	for range 3 {
		mustBeFull(t, b)
	}
	mustTake(t, b, 1)
	mustPut(t, b, 3)
	mustBeFull(t, b)
	mustAll(t, b, 2, 3)
	mustBeEmpty(t, b)
}

// Long behind each other, with a few that wait at each time.
func TestThingsComeInOrder(t *testing.T) {
	b := mustNew(t, 5)
	put, taken := 0, 0
	for round := range 500 {
		for range round % 6 {
			if e := b.Put(put); e == api.OK {
				put++
			} else if e != api.ErrFull || put-taken != 5 {
				t.Fatal(round, e, put, taken)
			}
		}
		mustCount(t, b, put-taken, 5-(put-taken))
		for range round % 4 {
			v, ok := b.Take()
			if ok != (put > taken) || ok && v != taken || !ok && v != 0 {
				t.Fatal(round, v, ok, put, taken)
			}
			if ok {
				taken++
			}
		}
	}
}

func TestZeroThingsWait(t *testing.T) {
	b := boxOf(t, 3, 0, 0)
	mustTake(t, b, 0)
	mustPut(t, b, 0)
	mustAll(t, b, 0, 0)
	mustBeEmpty(t, b)
	p, e := mail.New[*int](1)
	if e != api.OK {
		t.Fatal(e)
	}
	p.Put(nil)
	if i, v, ok := mail.First([]*mail.Box[*int]{nil, p}); i != 1 || v != nil || !ok {
		t.Fatal(i, v, ok)
	}
}

func TestNilBox(t *testing.T) {
	var b *mail.Box[int]
	inTime(t, func() {
		if e := b.Put(1); e != api.ErrNone {
			t.Error("Put", e)
		}
		if v, ok := b.Take(); v != 0 || ok {
			t.Error("Take", v, ok)
		}
		if l := b.All(); len(l) != 0 {
			t.Error("All", l)
		}
		if b.Len() != 0 || b.Room() != 0 {
			t.Error(b.Len(), b.Room())
		}
	})
}

func TestNoCallWaits(t *testing.T) {
	empty, full := mustNew(t, 1), boxOf(t, 1, 5)
	inTime(t, func() {
		if v, ok := empty.Take(); v != 0 || ok {
			t.Error("Take", v, ok)
		}
		if l := empty.All(); len(l) != 0 {
			t.Error("All", l)
		}
		if i, v, ok := mail.First([]*mail.Box[int]{empty, nil, empty}); i != 0 || v != 0 || ok {
			t.Error("First", i, v, ok)
		}
		if e := full.Put(6); e != api.ErrFull {
			t.Error("Put", e)
		}
		if l := full.All(); !slices.Equal(l, []int{5}) {
			t.Error("All", l)
		}
	})
}

func TestListsAreTheirOwn(t *testing.T) {
	b := boxOf(t, 3, 1, 2)
	a := b.All()
	for v := 7; v < 10; v++ {
		mustPut(t, b, v)
	}
	if !slices.Equal(a, []int{1, 2}) {
		t.Fatal("later calls changed a list", a)
	}
	a = a[:cap(a)]
	for i := range a {
		a[i] = 77
	}
	c := b.All()
	mustPut(t, b, 4)
	if !slices.Equal(c, []int{7, 8, 9}) {
		t.Fatal("writing over a list changed what waits", c)
	}
	c = c[:cap(c)]
	for i := range c {
		c[i] = 77
	}
	mustAll(t, b, 4)
}

func TestPartsAreShared(t *testing.T) {
	b, e := mail.New[[]byte](1)
	if e != api.OK {
		t.Fatal(e)
	}
	p := []byte{1, 2}
	b.Put(p)
	p[0] = 9
	if v, ok := b.Take(); !ok || !slices.Equal(v, []byte{9, 2}) {
		t.Fatal(v, ok)
	}
}

func TestBoxesAreApart(t *testing.T) {
	a, b := mustNew(t, 2), mustNew(t, 2)
	mustPut(t, a, 1)
	mustBeEmpty(t, b)
	mustPut(t, b, 2)
	mustAll(t, a, 1)
	mustAll(t, b, 2)
}

// What was taken isn't kept: nothing else holds it, so it is collected.
func TestWhatWasTakenIsNotKept(t *testing.T) {
	type big [64]*int
	b, _ := mail.New[*big](4)
	seen := []weak.Pointer[big]{}
	for range 4 {
		p := new(big)
		seen = append(seen, weak.Make(p))
		b.Put(p)
	}
	b.Take()
	mail.First([]*mail.Box[*big]{b})
	b.All()
	runtime.GC()
	for i, w := range seen {
		if w.Value() != nil {
			t.Error("it keeps", i)
		}
	}
	runtime.KeepAlive(b)
}

func mustFirst(t *testing.T, l []*mail.Box[int], place, want int) {
	t.Helper()
	if i, v, ok := mail.First(l); i != place || v != want || !ok {
		t.Fatalf("First = %d, %d, %v, not %d, %d", i, v, ok, place, want)
	}
}

func mustFindNothing(t *testing.T, l []*mail.Box[int]) {
	t.Helper()
	if i, v, ok := mail.First(l); i != 0 || v != 0 || ok {
		t.Fatalf("First = %d, %d, %v, though nothing waits", i, v, ok)
	}
}

func TestFirst(t *testing.T) {
	l := []*mail.Box[int]{
		nil,
		mustNew(t, 1),
		boxOf(t, 3, 20, 21),
		nil,
		boxOf(t, 1, 40),
		mustNew(t, 2),
		boxOf(t, 2, 60, 61),
	}
	mustFirst(t, l, 2, 20)
	mustCount(t, l[2], 1, 2)
	mustFirst(t, l, 2, 21)
	mustFirst(t, l, 4, 40)
	mustPut(t, l[1], 10)
	mustFirst(t, l, 1, 10)
	mustFirst(t, l, 6, 60)
	mustPut(t, l[5], 50)
	mustFirst(t, l, 5, 50)
	mustFirst(t, l, 6, 61)
	mustFindNothing(t, l)
	mustPut(t, l[6], 62)
	mustFirst(t, l, 6, 62)
}

// It is the box in front that counts, not what waits longest, and only one thing is taken.
func TestFirstTakesOneThing(t *testing.T) {
	a, b := mustNew(t, 4), mustNew(t, 4)
	mustPut(t, b, 1)
	mustPut(t, a, 2)
	mustPut(t, b, 3)
	mustPut(t, a, 4)
	mustFirst(t, []*mail.Box[int]{a, b}, 0, 2)
	mustCount(t, a, 1, 3)
	mustCount(t, b, 2, 2)
	mustAll(t, a, 4)
	mustFirst(t, []*mail.Box[int]{a, b}, 1, 1)
	mustAll(t, b, 3)
}

// Many boxes, each with something: never another than the one in front.
func TestFirstIsTheOneInFront(t *testing.T) {
	for range 50 {
		l := []*mail.Box[int]{}
		for i := range 20 {
			l = append(l, boxOf(t, 1, i))
		}
		for i := range l {
			mustFirst(t, l, i, i)
		}
		mustFindNothing(t, l)
	}
}

func TestFirstOfNothing(t *testing.T) {
	inTime(t, func() {
		for _, l := range [][]*mail.Box[int]{nil, {}, {nil}, {nil, nil, nil}} {
			if i, v, ok := mail.First(l); i != 0 || v != 0 || ok {
				t.Error(len(l), i, v, ok)
			}
		}
	})
	mustFindNothing(t, []*mail.Box[int]{mustNew(t, 1)})
	mustFindNothing(t, []*mail.Box[int]{nil, mustNew(t, 1), nil, mustNew(t, 256)})
}

func TestFirstOfOneBoxTwice(t *testing.T) {
	b := boxOf(t, 2, 1, 2)
	l := []*mail.Box[int]{b, nil, b}
	mustFirst(t, l, 0, 1)
	mustFirst(t, l, 0, 2)
	mustFindNothing(t, l)
}

func TestFirstLeavesItsListAsItIs(t *testing.T) {
	a, b, spare := mustNew(t, 1), boxOf(t, 1, 5), boxOf(t, 1, 9)
	room := []*mail.Box[int]{a, b, nil, spare}
	was := slices.Clone(room)
	mustFirst(t, room[:3], 1, 5)
	mustFindNothing(t, room[:3])
	if !slices.Equal(room, was) {
		t.Fatal("the list was written over")
	}
	mustCount(t, spare, 1, 0)
	clear(room)
	mustPut(t, b, 6)
	mustTake(t, b, 6)
}

// Every script of eight steps of a box: a put, a take, all, or the first of two boxes of which the other is empty.
func TestScripts(t *testing.T) {
	none := mustNew(t, 1)
	for _, n := range []int{1, 2, 3} {
		for script := range 1 << 16 {
			b, plain := mustNew(t, n), []int{}
			for i := range 8 {
				plain = runStep(t, b, none, plain, script>>(2*i)%4, n, i+1)
				mustCount(t, b, len(plain), n-len(plain))
			}
		}
	}
}

// runStep does a step, of a box in which the things of plain wait; those that wait behind it.
func runStep(t *testing.T, b, none *mail.Box[int], plain []int, step, n, v int) []int {
	t.Helper()
	switch {
	case step == 0 && len(plain) == n:
		mustBeFull(t, b)
	case step == 0:
		mustPut(t, b, v)
		return append(plain, v)
	case step == 1:
		mustAll(t, b, plain...)
		return nil
	case step == 2 && len(plain) == 0:
		mustBeEmpty(t, b)
	case step == 3 && len(plain) == 0:
		mustFindNothing(t, []*mail.Box[int]{none, b})
	case step == 2:
		mustTake(t, b, plain[0])
		return plain[1:]
	case step == 3:
		mustFirst(t, []*mail.Box[int]{none, b}, 1, plain[0])
		return plain[1:]
	}
	return plain
}
