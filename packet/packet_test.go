package packet_test

import (
	"bytes"
	"math"
	"slices"
	"testing"

	"pinnace/api"
	"pinnace/packet"
	"pinnace/snap"
)

const (
	top = math.MaxUint32
	// The IDs of the least and the greatest generation, each of the first and the last slot.
	leastFirst    = api.ID(1024)
	leastLast     = api.ID(2047)
	greatestFirst = api.ID(top - 1023)
	greatestLast  = api.ID(top)
)

// dice throws the same numbers in every run.
type dice uint64

func (d *dice) throw(n int) int {
	*d = *d*6364136223846793005 + 1442695040888963407
	return int(uint64(*d) >> 33 % uint64(n))
}

// every is a component of each kind that is told.
func every() []api.Comp {
	return []api.Comp{pos(1, -2), vel(3, -4), life(5), body(6, 7, 8), tag(1, 2, 3)}
}

// other is another one of each kind.
func other() []api.Comp {
	return []api.Comp{pos(1, -300), vel(-3, -4), life(4000), body(6, 7, 9), tag(1, 200, 3)}
}

// least and most have each field at an end of its range.
func least() []api.Comp {
	return []api.Comp{pos(-524288, -524288), vel(-32768, -32768), life(0), body(0, 0, 1), tag(0, 0, 0)}
}

func most() []api.Comp {
	return []api.Comp{pos(524287, 524287), vel(32767, 32767), life(4095), body(15, 1000, 100), tag(7, 255, 31)}
}

func full(tick uint32) api.Head { return api.Head{Kind: api.Full, Epoch: 1, Tick: tick} }

func step(tick, base uint32) api.Head {
	return api.Head{Kind: api.Step, Epoch: 1, Tick: tick, Base: base}
}

// rightHeads is each kind with the edges of all that a head may have.
func rightHeads() []api.Head {
	var l []api.Head
	for _, client := range []byte{0, 1, 14, 15} {
		for _, epoch := range []uint32{1, 2, 15, 16, 255, 256, 1 << 28, 1 << 31, top - 1, top} {
			for _, kind := range []byte{api.Connect, api.Reset} {
				l = append(l, api.Head{Kind: kind, Client: client, Epoch: epoch})
			}
			for _, tick := range []uint32{0, 1, 2, 16, 17, 1 << 31, top - 1, top} {
				l = append(l, api.Head{Kind: api.Full, Client: client, Epoch: epoch, Tick: tick}, api.Head{Kind: api.Ack, Client: client, Epoch: epoch, Tick: tick})
				for _, base := range []uint32{0, 1, tick - 2, tick - 1, tick - 16, tick - 17, tick / 2} {
					if base < tick {
						l = append(l, api.Head{Kind: api.Step, Client: client, Epoch: epoch, Tick: tick, Base: base})
					}
				}
			}
		}
	}
	return l
}

// wrongHeads is what can be wrong with a head, and its error.
func wrongHeads() []struct {
	h    api.Head
	want api.Errno
} {
	return []struct {
		h    api.Head
		want api.Errno
	}{
		{api.Head{}, api.ErrArg},
		{api.Head{Kind: 0, Epoch: 1}, api.ErrArg},
		{api.Head{Kind: 6, Epoch: 1}, api.ErrArg},
		{api.Head{Kind: 7, Epoch: 1}, api.ErrArg},
		{api.Head{Kind: 8, Epoch: 1}, api.ErrArg},
		{api.Head{Kind: 255, Epoch: 1}, api.ErrArg},
		{api.Head{Kind: api.Full, Client: 16, Epoch: 1}, api.ErrArg},
		{api.Head{Kind: api.Step, Client: 17, Epoch: 1, Tick: 1}, api.ErrArg},
		{api.Head{Kind: api.Ack, Client: 128, Epoch: 1}, api.ErrArg},
		{api.Head{Kind: api.Connect, Client: 255, Epoch: 1}, api.ErrArg},
		{api.Head{Kind: api.Reset, Client: 16, Epoch: 1}, api.ErrArg},
		{api.Head{Kind: 6, Client: 16, Tick: 1, Base: 1}, api.ErrArg},
		{api.Head{Kind: api.Connect, Client: 16, Tick: 1}, api.ErrArg},
		{api.Head{Kind: api.Step, Client: 16, Tick: 1, Base: 1}, api.ErrArg},
		{api.Head{Kind: 6, Tick: 1}, api.ErrArg},
		{api.Head{Kind: api.Full}, api.ErrForm},
		{api.Head{Kind: api.Full, Tick: 5}, api.ErrForm},
		{api.Head{Kind: api.Step, Tick: 5, Base: 4}, api.ErrForm},
		{api.Head{Kind: api.Ack, Client: 15}, api.ErrForm},
		{api.Head{Kind: api.Connect}, api.ErrForm},
		{api.Head{Kind: api.Reset}, api.ErrForm},
		{api.Head{Kind: api.Connect, Epoch: 1, Tick: 1}, api.ErrForm},
		{api.Head{Kind: api.Connect, Epoch: 1, Tick: top}, api.ErrForm},
		{api.Head{Kind: api.Reset, Epoch: 1, Tick: 1}, api.ErrForm},
		{api.Head{Kind: api.Reset, Epoch: top, Tick: 1 << 31}, api.ErrForm},
		{api.Head{Kind: api.Full, Epoch: 1, Base: 1}, api.ErrForm},
		{api.Head{Kind: api.Full, Epoch: 1, Tick: 5, Base: 4}, api.ErrForm},
		{api.Head{Kind: api.Ack, Epoch: 1, Tick: 5, Base: 4}, api.ErrForm},
		{api.Head{Kind: api.Ack, Epoch: 1, Tick: 5, Base: 5}, api.ErrForm},
		{api.Head{Kind: api.Connect, Epoch: 1, Base: 1}, api.ErrForm},
		{api.Head{Kind: api.Reset, Epoch: 1, Base: top}, api.ErrForm},
		{api.Head{Kind: api.Step, Epoch: 1}, api.ErrForm},
		{api.Head{Kind: api.Step, Epoch: 1, Base: 1}, api.ErrForm},
		{api.Head{Kind: api.Step, Epoch: 1, Tick: 1, Base: 1}, api.ErrForm},
		{api.Head{Kind: api.Step, Epoch: 1, Tick: 5, Base: 6}, api.ErrForm},
		{api.Head{Kind: api.Step, Epoch: 1, Tick: 5, Base: top}, api.ErrForm},
		{api.Head{Kind: api.Step, Epoch: 1, Tick: top, Base: top}, api.ErrForm},
	}
}

// snapshots is those that the document's words name.
func snapshots() [][]api.Ent {
	return [][]api.Ent{
		nil,
		list(ent(leastFirst)),
		list(ent(greatestLast)),
		list(ent(1030, life(5))),
		list(ent(leastFirst, every()...)),
		list(ent(greatestLast, every()...)),
		list(ent(leastFirst, least()...), ent(leastLast, most()...)),
		list(ent(leastFirst, most()...), ent(leastLast, least()...)),
		list(ent(1024, every()...), ent(1025), ent(1026, other()...)),
		list(ent(1024), ent(1025, other()...), ent(1026), ent(1041), ent(1058), ent(1<<31, life(1)), ent(greatestFirst, tag(7, 7, 7)), ent(greatestLast)),
		list(ent(1025, vel(1, 1), tag(1, 1, 1)), ent(1026, pos(5, 5), body(1, 1, 1)), ent(greatestLast-1, life(3)), ent(greatestLast, life(4))),
	}
}

// mustSeal tells that Seal's frame is what the document's words make, and that Peek and Open read it.
func mustSeal(t *testing.T, h api.Head, was, now []api.Ent) []byte {
	t.Helper()
	p, e := packet.Seal(h, was, now)
	if want := sealedText(written(h, was, now)); e != api.OK || !bytes.Equal(p, want) {
		t.Fatalf("Seal(%v, %v, %v) = %x, %d, not %x", h, was, now, p, e, want)
	}
	mustPeek(t, p, h)
	mustOpen(t, p, was, h, now)
	return p
}

func mustPeek(t *testing.T, p []byte, want api.Head) {
	t.Helper()
	if h, e := packet.Peek(p); h != want || e != api.OK {
		t.Fatalf("Peek(%x) = %v, %d, not %v", p, h, e, want)
	}
}

func mustOpen(t *testing.T, p []byte, was []api.Ent, want api.Head, now []api.Ent) {
	t.Helper()
	if h, l, e := packet.Open(p, was); h != want || e != api.OK || !equal(l, now) {
		t.Fatalf("Open(%x, %v) = %v, %v, %d, not %v, %v", p, was, h, l, e, want, now)
	}
}

func mustNotSeal(t *testing.T, h api.Head, was, now []api.Ent, want api.Errno) {
	t.Helper()
	if p, e := packet.Seal(h, was, now); e != want || len(p) != 0 {
		t.Fatalf("Seal(%v, %v, %v) = %x, %d, not %d", h, was, now, p, e, want)
	}
}

func mustNotPeek(t *testing.T, p []byte, want api.Errno) {
	t.Helper()
	if h, e := packet.Peek(p); h != (api.Head{}) || e != want {
		t.Fatalf("Peek(%x) = %v, %d, not %d", p, h, e, want)
	}
}

func mustNotOpen(t *testing.T, p []byte, was []api.Ent, want api.Errno) {
	t.Helper()
	if h, l, e := packet.Open(p, was); h != (api.Head{}) || len(l) != 0 || e != want {
		t.Fatalf("Open(%x, %v) = %v, %v, %d, not %d", p, was, h, l, e, want)
	}
}

// mustDoAsModel tells that Peek and Open of a rightly sealed body answer what the model does; and whether it is a packet.
func mustDoAsModel(t *testing.T, b []byte, was []api.Ent) bool {
	t.Helper()
	p := sealed(b)
	if h, ok := peeked(b); ok {
		mustPeek(t, p, h)
	} else {
		mustNotPeek(t, p, api.ErrForm)
	}
	h, now, ok := opened(b, was)
	if ok {
		mustOpen(t, p, was, h, now)
		if again, e := packet.Seal(h, was, now); e != api.OK || !bytes.Equal(again, p) {
			t.Fatalf("Seal(%v, %v, %v) = %x, %d, not %x", h, was, now, again, e, p)
		}
	} else {
		mustNotOpen(t, p, was, api.ErrForm)
	}
	return ok
}

func TestExamples(t *testing.T) {
	h := api.Head{Kind: api.Ack, Client: 2, Epoch: 1, Tick: 5}
	p := mustSeal(t, h, nil, nil)
	if !bytes.Equal(p[:len(p)-4], []byte{0x92, 0x50, 0, 0, 0, 0}) {
		t.Fatalf("%x", p)
	}
	mustNotOpen(t, sealedText(written(full(5), nil, list(ent(1024, life(5))))+"1"), nil, api.ErrForm)
}

func TestStepToItselfIsShort(t *testing.T) {
	for _, l := range snapshots() {
		for _, x := range [][2]uint32{{1, 0}, {9, 8}, {1 << 20, 1<<20 - 64}, {top, top - 1}} {
			if p := mustSeal(t, step(x[0], x[1]), l, snap.Copy(l)); len(p) > 16 {
				t.Fatalf("%d bytes: %x", len(p), p)
			}
		}
	}
}

// Bits that are written out, so that a fault of the model would show.
func TestBitsWrittenOut(t *testing.T) {
	const (
		fullHead = "000" + "1111" + "10000" + "10000000000000000000000000000000"
		stepHead = "100" + "0000" + "00001" + "10000" + "10010000000000000000000000000000" + "10000"
	)
	h := api.Head{Kind: api.Full, Client: 15, Epoch: 1, Tick: 1}
	for _, x := range []struct {
		now  []api.Ent
		text string
	}{
		{nil, "00000"},
		{list(ent(1024)), "10000" + "11111" + "11111" + "11000" + "00000"},
		{list(ent(1025, life(5))), "10000" + "00001" + "00001" + "00100" + "00100" + "101000000000"},
		{list(ent(1025, life(4095)), ent(1026, body(1, 2, 4)), ent(1028)),
			"11000" + "00001" + "00001" + "00100" + "00100" + "111111111111" +
				"00000" + "00010" + "1000" + "0100000000" + "1100000" +
				"10000" + "00000"},
	} {
		if p := mustSeal(t, h, nil, x.now); !bytes.Equal(p, sealedText(fullHead+x.text)) {
			t.Fatalf("%v: %s", x.now, unpacked(p))
		}
	}
	was := list(ent(1025, pos(0, 0), life(6)), ent(1026), ent(1027, life(3)))
	now := list(ent(1025, vel(-32768, 32767), life(5)), ent(1027, life(3)), ent(1030, tag(7, 0, 1)))
	p := mustSeal(t, api.Head{Kind: api.Step, Epoch: 16, Tick: 9, Base: 7}, was, now)
	want := stepHead +
		"10000" + "10001" + "00001" + "00100" +
		"10000" + "10101" + "00001" + "00100" + "00001" + "111" + "00000000" + "10000" +
		"10000" + "00001" + "00001" + "00100" + "10000" + "01000" + "00100" + "0000000000000000" + "1111111111111111" + "110000"
	if !bytes.Equal(p, sealedText(want)) {
		t.Fatalf("%s is not %s", unpacked(p), want)
	}
}

// Check, P20.1.

func TestCheck(t *testing.T) {
	for _, h := range rightHeads() {
		if e := packet.Check(h); e != api.OK {
			t.Fatal(h, e)
		}
	}
	for _, x := range wrongHeads() {
		if e := packet.Check(x.h); e != x.want {
			t.Fatal(x.h, e, x.want)
		}
	}
}

func TestCheckOfAllKindsAndClients(t *testing.T) {
	for kind := range 256 {
		for client := range 256 {
			h := api.Head{Kind: byte(kind), Client: byte(client), Epoch: 1}
			if kind == api.Step {
				h.Tick = 1
			}
			want := api.OK
			if kind < 1 || kind > 5 || client > 15 {
				want = api.ErrArg
			}
			if e := packet.Check(h); e != want {
				t.Fatal(h, e)
			}
		}
	}
}

// Seal, P20.1.

func TestEveryHead(t *testing.T) {
	l := list(ent(1024, every()...))
	for _, h := range rightHeads() {
		mustSeal(t, h, nil, nil)
		if h.Kind == api.Full || h.Kind == api.Step {
			mustSeal(t, h, nil, l)
			mustSeal(t, h, l, nil)
			mustSeal(t, h, l, l)
		}
	}
}

func TestEverySnapshot(t *testing.T) {
	for _, l := range snapshots() {
		mustSeal(t, full(0), nil, l)
		mustSeal(t, full(top), nil, l)
	}
	mustSeal(t, full(3), nil, []api.Ent{})
	mustSeal(t, full(3), nil, []api.Ent{{ID: 1024, Comps: []api.Comp{}}})
}

func TestEachKindAlone(t *testing.T) {
	for i := range every() {
		for _, c := range [][]api.Comp{every(), other(), least(), most()} {
			now := list(ent(1024), ent(1025, c[i]), ent(1026))
			mustSeal(t, full(1), nil, now)
			mustSeal(t, step(2, 1), nil, now)
			mustSeal(t, step(2, 1), list(ent(1025)), now)
			for _, d := range [][]api.Comp{every(), other(), least(), most()} {
				mustSeal(t, step(2, 1), list(ent(1025, d[i])), now)
			}
		}
	}
}

func TestEveryStep(t *testing.T) {
	for _, was := range snapshots() {
		for _, now := range snapshots() {
			mustSeal(t, step(1, 0), was, now)
			mustSeal(t, step(top, 0), was, now)
		}
	}
}

func TestSomeGoSomeComeSomeChange(t *testing.T) {
	was := list(ent(1024, life(1)), ent(1025, pos(1, 1), life(2), tag(1, 1, 1)), ent(1026, every()...), ent(1028), ent(1029, every()...))
	now := list(ent(1025, vel(1, 1), life(3), tag(1, 1, 1)), ent(1026, every()...), ent(1027, every()...), ent(1029, other()...), ent(2048, pos(5, 5)))
	mustSeal(t, step(9, 5), was, now)
	mustSeal(t, step(9, 5), now, was)
}

func TestLosesGetsAndChanges(t *testing.T) {
	for kind := range every() {
		was, now := every(), other()
		lost, got := (kind+1)%5, (kind+2)%5
		was, now = without(was, got), without(now, lost)
		mustSeal(t, step(2, 1), list(ent(1024, was...)), list(ent(1024, now...)))
	}
}

func without(l []api.Comp, kind int) []api.Comp {
	return slices.DeleteFunc(l, func(c api.Comp) bool { return int(c.Kind) == kind })
}

// was isn't looked at but of Step.
func TestWasIsNotLookedAt(t *testing.T) {
	for _, x := range notSnaps() {
		mustSeal(t, full(5), x.l, list(ent(1024, every()...)))
		for _, kind := range []byte{api.Ack, api.Connect, api.Reset} {
			mustSeal(t, api.Head{Kind: kind, Epoch: 1}, x.l, nil)
		}
	}
}

// notSnaps is what can be wrong with a snapshot, and its error.
func notSnaps() []struct {
	l    []api.Ent
	want api.Errno
} {
	return []struct {
		l    []api.Ent
		want api.Errno
	}{
		{list(ent(1024, comp(6))), api.ErrArg},
		{list(ent(1024, comp(200))), api.ErrArg},
		{list(ent(0)), api.ErrForm},
		{list(ent(1023)), api.ErrForm},
		{list(ent(1024), ent(1024)), api.ErrForm},
		{list(ent(1025), ent(1024)), api.ErrForm},
		{list(ent(1024, tag(0, 0, 0), pos(0, 0))), api.ErrForm},
		{list(ent(1024, pos(0, 0), pos(0, 0))), api.ErrForm},
		{list(ent(1024, comp(api.Life, 1, 1))), api.ErrForm},
		{list(ent(1024, breeds(1, 0, 0))), api.ErrForm},
		{list(ent(1024, life(4096))), api.ErrRange},
		{list(ent(1024), ent(1025, life(-1))), api.ErrRange},
	}
}

func TestSealOfWrongHead(t *testing.T) {
	long := crowd(200000)
	for _, x := range wrongHeads() {
		mustNotSeal(t, x.h, nil, nil, x.want)
		for _, y := range notSnaps() {
			mustNotSeal(t, x.h, y.l, y.l, x.want)
		}
		mustNotSeal(t, x.h, nil, long, x.want)
	}
}

func TestSealOfNoSnapshot(t *testing.T) {
	for _, x := range notSnaps() {
		mustNotSeal(t, full(1), nil, x.l, x.want)
		mustNotSeal(t, full(1), x.l, x.l, x.want)
		mustNotSeal(t, step(1, 0), x.l, nil, x.want)
		mustNotSeal(t, step(1, 0), nil, x.l, x.want)
		for _, y := range notSnaps() {
			mustNotSeal(t, step(1, 0), x.l, y.l, x.want)
		}
	}
}

// What is no snapshot goes ahead of what is too long.
func TestNoSnapshotAheadOfTooLong(t *testing.T) {
	long := crowd(8000)
	mustNotSeal(t, full(1), nil, long, api.ErrLong)
	mustNotSeal(t, step(1, 0), nil, long, api.ErrLong)
	mustNotSeal(t, step(1, 0), long, nil, api.ErrLong)
	for _, x := range []struct {
		last api.Ent
		want api.Errno
	}{
		{ent(1<<20, comp(6)), api.ErrArg},
		{ent(1024), api.ErrForm},
		{ent(1<<20, breeds(1, 0, 0)), api.ErrForm},
		{ent(1<<20, life(4096)), api.ErrRange},
	} {
		wrong := append(crowd(8000), x.last)
		mustNotSeal(t, full(1), nil, wrong, x.want)
		mustNotSeal(t, step(1, 0), nil, wrong, x.want)
		mustNotSeal(t, step(1, 0), wrong, nil, x.want)
		mustNotSeal(t, step(1, 0), wrong, long, x.want)
	}
}

func TestSealOfSomebodyWhereNobodyIs(t *testing.T) {
	for _, kind := range []byte{api.Ack, api.Connect, api.Reset} {
		h := api.Head{Kind: kind, Epoch: 1}
		mustNotSeal(t, h, nil, list(ent(1024)), api.ErrForm)
		mustNotSeal(t, h, nil, list(ent(1024, every()...)), api.ErrForm)
		mustNotSeal(t, h, nil, crowd(200000), api.ErrForm)
		for _, x := range notSnaps() {
			mustNotSeal(t, h, nil, x.l, api.ErrForm)
		}
		mustSeal(t, h, nil, []api.Ent{})
	}
}

// How long a body may be.

// crowd is n entities side by side, with nothing.
func crowd(n int) []api.Ent {
	var l []api.Ent
	for i := range n {
		l = append(l, ent(1024+api.ID(i)))
	}
	return l
}

// filling is a snapshot whose packet of that head, a Full or a Step from nobody, has just so many bits, if there is one of its sort.
func filling(h api.Head, bits int) ([]api.Ent, bool) {
	for lives := range 5 {
		l := crowd(300)
		for i := range lives {
			l[i].Comps = []api.Comp{life(5)}
		}
		// Each further one takes ten bits, and twelve if it has a life.
		rest := bits - len(written(h, nil, l))
		l = append(l, crowd(300 + rest/10)[300:]...)
		if len(written(h, nil, l)) == bits {
			return l, true
		}
	}
	return nil, false
}

func TestLongest(t *testing.T) {
	for bits := api.MaxBody*8 - 9; bits <= api.MaxBody*8+16; bits++ {
		done := 0
		// With an epoch of one group or of two, the bits can be even and odd.
		for _, epoch := range []uint32{1, 16} {
			for _, h := range []api.Head{{Kind: api.Full, Epoch: epoch, Tick: 7}, {Kind: api.Step, Epoch: epoch, Tick: 7, Base: 3}} {
				now, ok := filling(h, bits)
				if !ok {
					continue
				}
				done++
				if bits > api.MaxBody*8 {
					mustNotSeal(t, h, nil, now, api.ErrLong)
				} else if p := mustSeal(t, h, nil, now); len(p) != (bits+7)/8+4 {
					t.Fatal(bits, len(p))
				}
			}
		}
		if done == 0 {
			t.Fatalf("%d bits are not tried", bits)
		}
	}
}

func TestFarTooLong(t *testing.T) {
	// More bits than a writer has room for, too.
	for _, n := range []int{5000, 110000, 200000} {
		l := crowd(n)
		mustNotSeal(t, full(1), nil, l, api.ErrLong)
		mustNotSeal(t, step(1, 0), nil, l, api.ErrLong)
		mustNotSeal(t, step(1, 0), l[:n/2], l[n/2:], api.ErrLong)
		mustSeal(t, step(1, 0), l[:100], l[:90])
		p, e := packet.Seal(step(1, 0), l, l)
		if e != api.OK || len(p) != 12 {
			t.Fatal(len(p), e)
		}
	}
	far := crowd(110000)
	for i := range far {
		far[i].Comps = []api.Comp{life(5)}
	}
	changed := snap.Copy(far)
	for i := range changed {
		changed[i].Comps[0] = life(4)
	}
	mustNotSeal(t, step(1, 0), far, changed, api.ErrLong)
	mustNotSeal(t, step(1, 0), far, nil, api.ErrLong)
}

// Peek, P20.2.

func TestPeekLooksAtTheHeadAlone(t *testing.T) {
	for _, h := range rightHeads() {
		k := &ink{}
		k.head(h)
		for _, behind := range []string{"", "1", "11111111", "0000000000000000", "10110011100011110000111110000011111100"} {
			mustPeek(t, sealedText(string(k.s)+behind), h)
		}
	}
}

func TestPeekOfLongest(t *testing.T) {
	k := &ink{}
	k.head(full(9))
	b := packed(string(k.s))
	for len(b) < api.MaxBody {
		b = append(b, 0xff)
	}
	mustPeek(t, sealed(b), full(9))
	mustNotOpen(t, sealed(b), nil, api.ErrForm)
	mustNotPeek(t, sealed(append(b, 0)), api.ErrLong)
}

// Heads that are cut short: the bits that fill the last byte count as bits, too.
func TestHeadCutShort(t *testing.T) {
	for _, h := range rightHeads() {
		b := packed(written(h, nil, nil))
		for n := range b {
			_, ok := peeked(b[:n])
			if short := h.Kind == api.Full || h.Kind == api.Ack; short && n < 5 && ok {
				t.Fatal("the model takes what is cut short", h, n)
			}
			mustDoAsModel(t, b[:n], nil)
		}
	}
	mustNotPeek(t, sealed(nil), api.ErrForm)
	mustNotOpen(t, sealed(nil), nil, api.ErrForm)
}

func TestWrongHeadsInFront(t *testing.T) {
	const rest = "00000" + "00000" + "00000"
	tick := "10000000000000000000000000000000"
	never := "00000000000000000000000000000000"
	for _, s := range []string{
		// Kinds 6, 7 and 8.
		"101" + "0000" + "10000" + tick + rest,
		"011" + "0000" + "10000" + tick + rest,
		"111" + "0000" + "10000" + tick + rest,
		// The epoch 0, of each kind.
		"000" + "0000" + "00000" + tick + rest,
		"100" + "0000" + "00000" + tick + rest,
		"010" + "0000" + "00000" + tick,
		"110" + "0000" + "00000",
		"001" + "0000" + "00000",
		// An epoch in more groups than there must be, and of 2^32, of 2^32 + 1, of the greatest Var and beyond.
		"110" + "0000" + "10001" + "00000",
		"110" + "0000" + "00001" + "00000",
		"110" + "0000" + "00001000010000100001000010000100001" + "00001" + "10000",
		"110" + "0000" + "10001000010000100001000010000100001" + "00001" + "10000",
		"110" + "0000" + "11111111111111111111111111111111111111111111111111111111111111111111111111111110",
		"110" + "0000" + "11111111111111111111111111111111111111111111111111111111111111111111111111111111" + "00000",
		// A Step of the tick 0; and of 1, from below 0: by one, and by so many that it comes round.
		"100" + "0000" + "10000" + never + "00000" + rest,
		"100" + "0000" + "10000" + tick + "10000" + rest,
		"100" + "0000" + "10000" + tick + "01000" + rest,
		"100" + "0000" + "10000" + tick + "11111111111111111111111111111111111" + "11110" + rest,
		"100" + "0000" + "10000" + tick + "00001000010000100001000010000100001" + "00001" + "10000" + rest,
		"100" + "0000" + "10000" + tick + "00001" + "00000" + rest,
	} {
		mustNotPeek(t, sealedText(s), api.ErrForm)
		mustNotOpen(t, sealedText(s), nil, api.ErrForm)
	}
}

// Bodies of at most two bytes, all of them.
func TestShortBodies(t *testing.T) {
	found := 0
	for n := range 3 {
		for v := range 1 << (8 * n) {
			if mustDoAsModel(t, []byte{byte(v), byte(v >> 8)}[:n], nil) {
				found++
			}
		}
	}
	// Connect and Reset, of 16 clients and the epochs 1 to 15.
	if found != 2*16*15 {
		t.Fatal(found)
	}
}

// Open, P20.2.

func TestNoFrames(t *testing.T) {
	p := mustSeal(t, full(5), nil, list(ent(1024, every()...)))
	for n := range 4 {
		mustNotPeek(t, p[:n], api.ErrShort)
		mustNotOpen(t, p[:n], nil, api.ErrShort)
	}
	for n := 4; n < len(p); n++ {
		mustNotPeek(t, p[:n], api.ErrSum)
		mustNotOpen(t, p[:n], nil, api.ErrSum)
	}
	for i := range 8 * len(p) {
		q := slices.Clone(p)
		q[i/8] ^= 1 << (i % 8)
		mustNotPeek(t, q, api.ErrSum)
		mustNotOpen(t, q, nil, api.ErrSum)
	}
	for _, n := range []int{api.MaxBody + 1, api.MaxBody + 2, 3 * api.MaxBody} {
		q := sealed(append(slices.Clone(p[:len(p)-4]), make([]byte, n-len(p)+4)...))
		mustNotPeek(t, q, api.ErrLong)
		mustNotOpen(t, q, nil, api.ErrLong)
		q[0] ^= 1
		mustNotPeek(t, q, api.ErrLong)
		mustNotOpen(t, q, nil, api.ErrLong)
	}
	for _, x := range notSnaps() {
		mustNotOpen(t, p[:3], x.l, api.ErrShort)
		mustNotOpen(t, p[:9], x.l, api.ErrSum)
	}
}

// cases is packets of each kind, with the snapshots behind which they stand.
func cases() []struct {
	h        api.Head
	was, now []api.Ent
} {
	type row = struct {
		h        api.Head
		was, now []api.Ent
	}
	l := []row{
		{h: api.Head{Kind: api.Ack, Client: 2, Epoch: 1, Tick: 5}},
		{h: api.Head{Kind: api.Connect, Client: 15, Epoch: 300}},
		{h: api.Head{Kind: api.Reset, Client: 3, Epoch: top}},
	}
	some := snapshots()
	for i, now := range some {
		l = append(l, row{h: full(uint32(i)), now: now})
		l = append(l, row{h: step(uint32(i)+20, uint32(i)), was: some[(i+1)%len(some)], now: now})
		l = append(l, row{h: step(uint32(i)+20, uint32(i)), was: some[(i+3)%len(some)], now: now})
	}
	return l
}

func TestCutShort(t *testing.T) {
	for _, x := range cases() {
		s := written(x.h, x.was, x.now)
		for n := range s {
			// Bits that are cut off and were 0 stand there still, if the byte does.
			mustDoAsModel(t, packed(s[:n]), x.was)
		}
		b := packed(s)
		for n := range b {
			mustNotOpen(t, sealed(b[:n]), x.was, api.ErrForm)
		}
	}
}

func TestMore(t *testing.T) {
	for _, x := range cases() {
		s := written(x.h, x.was, x.now)
		b := packed(s)
		for _, behind := range [][]byte{{0}, {1}, {0x80}, {0, 0}, {0xff, 0xff}} {
			mustNotOpen(t, sealed(slices.Concat(b, behind)), x.was, api.ErrForm)
			mustPeek(t, sealed(slices.Concat(b, behind)), x.h)
		}
		// Each of the bits that fill the last byte must be 0.
		for i := len(s); i < 8*len(b); i++ {
			c := slices.Clone(b)
			c[i/8] |= 1 << (i % 8)
			mustNotOpen(t, sealed(c), x.was, api.ErrForm)
			mustPeek(t, sealed(c), x.h)
		}
		mustNotOpen(t, sealedText(s+"1"), x.was, api.ErrForm)
		mustNotOpen(t, sealedText(s+"00000001"), x.was, api.ErrForm)
	}
}

// Whatever bit of a body is turned, it is another packet or none.
func TestTurnedBits(t *testing.T) {
	taken := 0
	for _, x := range cases() {
		b := packed(written(x.h, x.was, x.now))
		for i := range 8 * len(b) {
			b[i/8] ^= 1 << (i % 8)
			if mustDoAsModel(t, b, x.was) {
				taken++
			}
			b[i/8] ^= 1 << (i % 8)
		}
	}
	if taken < 1000 {
		t.Fatal("hardly any turned bit makes another packet", taken)
	}
}

func TestNumbersOtherwise(t *testing.T) {
	k := &ink{}
	k.head(full(1))
	head := string(k.s)
	id := "11111" + "11111" + "11000"
	mustOpen(t, sealedText(head+"10000"+id+"00000"), nil, full(1), list(ent(1024)))
	for _, s := range []string{
		// How many, and an ID, in a group more than there must be.
		"00001" + "00000",
		"10001" + "00000" + id + "00000",
		"10000" + "11111" + "11111" + "11001" + "00000" + "00000",
		// More are told than there are, and fewer.
		"01000" + id + "00000",
		"11110" + id + "00000",
		"00000" + id + "00000",
		"11111111111111111111111111111111111111111111111111111111111111111111111111111110" + id + "00000",
		"11111111111111111111111111111111111111111111111111111111111111111111111111111111" + "00000" + id + "00000",
		// Fields beyond their range: hp 1001, size 101.
		"10000" + id + "00010" + "0000" + "1001011111" + "0000000",
		"10000" + id + "00010" + "0000" + "0000000000" + "0010011",
	} {
		mustNotOpen(t, sealedText(head+s), nil, api.ErrForm)
		mustPeek(t, sealedText(head+s), full(1))
	}
	mustOpen(t, sealedText(head+"10000"+id+"00010"+"0000"+"0001011111"+"1100011"), nil, full(1), list(ent(1024, body(0, 1000, 100))))
}

// idsAsTold is a Full's bits, and Steps', with a list in which the IDs are told by these numbers.
func idsAsTold(numbers ...uint64) (asFull, asGone, asCome string) {
	ents, gone := &ink{}, &ink{}
	ents.putVar(uint64(len(numbers)))
	gone.putVar(uint64(len(numbers)))
	for _, v := range numbers {
		ents.putVar(v)
		ents.put(0, 5)
		gone.putVar(v)
	}
	f, s := &ink{}, &ink{}
	f.head(full(1))
	s.head(step(1, 0))
	return string(f.s) + string(ents.s), string(s.s) + string(gone.s) + "00000" + "00000", string(s.s) + "00000" + string(ents.s) + "00000"
}

func TestIDsBeyond(t *testing.T) {
	f, gone, come := idsAsTold(top - 1)
	mustOpen(t, sealedText(f), nil, full(1), list(ent(greatestLast)))
	mustOpen(t, sealedText(gone), list(ent(greatestLast)), step(1, 0), nil)
	mustOpen(t, sealedText(come), nil, step(1, 0), list(ent(greatestLast)))
	f, gone, come = idsAsTold(1023, 0, top-1026)
	three := list(ent(1024), ent(1025), ent(greatestLast))
	mustOpen(t, sealedText(f), nil, full(1), three)
	mustOpen(t, sealedText(gone), three, step(1, 0), nil)
	mustOpen(t, sealedText(come), nil, step(1, 0), three)
	for _, numbers := range [][]uint64{
		{0}, {1}, {1022},
		{top}, {top + 1}, {top + 1024}, {top + 1025}, {math.MaxUint64}, {math.MaxUint64 - 1}, {1<<33 + 1023}, {1<<63 + 1023},
		{top - 1, 0}, {top - 1, 1}, {top - 1, top}, {top - 1, 1023}, {top - 1, 1024}, {top - 1, math.MaxUint64},
		{1023, top - 1024}, {1023, top}, {1023, top + 1}, {1023, math.MaxUint64}, {1023, math.MaxUint64 - 1024},
		{1023, 0, top - 1025}, {1023, 0, math.MaxUint64},
		{0, 1022}, {1023, 0, 0, math.MaxUint64 - 1},
	} {
		f, gone, come := idsAsTold(numbers...)
		mustNotOpen(t, sealedText(f), nil, api.ErrForm)
		mustNotOpen(t, sealedText(come), nil, api.ErrForm)
		for _, was := range [][]api.Ent{nil, list(ent(1024)), list(ent(1024), ent(1025)), three, list(ent(greatestLast))} {
			mustNotOpen(t, sealedText(gone), was, api.ErrForm)
		}
	}
}

// toldStep is a Step with a delta that is told as it stands.
func toldStep(d func(k *ink)) []byte {
	k := &ink{}
	k.head(step(1, 0))
	d(k)
	return sealedText(string(k.s))
}

// toldChange is a Step with one change alone, by its masks, and the bits behind them.
func toldChange(id api.ID, lost, fresh, set uint64, bits string) []byte {
	return toldStep(func(k *ink) {
		k.put(0, 10)
		k.putVar(1)
		k.id(0, id)
		k.put(lost, 5)
		k.put(fresh, 5)
		k.put(set, 5)
		k.s = append(k.s, bits...)
	})
}

func TestMasksThatDoNotFit(t *testing.T) {
	was := list(ent(1024), ent(1025, vel(1, 2), life(5), tag(1, 1, 1)), ent(1026))
	near, far, five := "11"+"0000", "10"+"000000000001", "101000000000"
	mustOpen(t, toldChange(1025, 2, 0, 4, near), was, step(1, 0), list(ent(1024), ent(1025, life(4), tag(1, 1, 1)), ent(1026)))
	mustOpen(t, toldChange(1024, 0, 4, 0, five), was, step(1, 0), list(ent(1024, life(5)), ent(1025, vel(1, 2), life(5), tag(1, 1, 1)), ent(1026)))
	for _, p := range [][]byte{
		// It is as it was; it hasn't what it is to lose; it has what it is to get; it hasn't what is to change.
		toldChange(1025, 0, 0, 0, ""),
		toldChange(1024, 1, 0, 0, ""),
		toldChange(1025, 1, 0, 0, ""),
		toldChange(1025, 3, 0, 0, ""),
		toldChange(1025, 31, 0, 0, ""),
		toldChange(1025, 0, 4, 0, five),
		toldChange(1025, 0, 4, 0, "001000000000"),
		toldChange(1024, 0, 0, 4, near),
		toldChange(1024, 0, 0, 4, far),
		toldChange(1025, 0, 0, 1, "0"+"11"+"0000"),
		// Two masks name one kind.
		toldChange(1025, 4, 4, 0, "001000000000"),
		toldChange(1025, 4, 0, 4, near),
		toldChange(1025, 0, 4, 4, "001000000000"+near),
		toldChange(1024, 4, 4, 0, five),
		toldChange(1024, 0, 4, 4, five+near),
		// Who isn't there.
		toldChange(1027, 0, 4, 0, five),
		toldChange(1023, 0, 4, 0, five),
		toldChange(1, 0, 4, 0, five),
		toldChange(2049, 4, 0, 0, ""),
		toldChange(2049, 0, 0, 4, near),
		// It is said to have changed, and hasn't, or isn't said to be near, and is, or leaves its range.
		toldChange(1025, 0, 0, 4, "0"),
		toldChange(1025, 0, 0, 4, "10"+five),
		toldChange(1025, 0, 0, 4, "10"+"001000000000"),
		toldChange(1025, 0, 0, 4, "11"+"0101"),
		toldChange(1025, 0, 0, 2, "0"+"0"),
		toldChange(1025, 0, 0, 6, "0"+"0"+near),
	} {
		mustNotOpen(t, p, was, api.ErrForm)
		mustPeek(t, p, step(1, 0))
	}
}

func TestDeltasThatAreNone(t *testing.T) {
	was := list(ent(1024, life(5)), ent(1026, life(6)))
	for _, d := range []func(k *ink){
		// One who isn't there goes; one who is there comes; one goes and comes; one goes and changes; one comes and changes.
		func(k *ink) { k.delta(was, api.Delta{Gone: []api.ID{1025}}) },
		func(k *ink) { k.delta(was, api.Delta{Gone: []api.ID{1024, 1025, 1026}}) },
		func(k *ink) { k.delta(was, api.Delta{Come: list(ent(1024))}) },
		func(k *ink) { k.delta(was, api.Delta{Come: list(ent(1024, life(5)))}) },
		func(k *ink) { k.delta(was, api.Delta{Come: list(ent(1025), ent(1026))}) },
		func(k *ink) { k.delta(was, api.Delta{Gone: []api.ID{1024}, Come: list(ent(1024, life(5)))}) },
		func(k *ink) { k.delta(was, api.Delta{Gone: []api.ID{1024}, Come: list(ent(1024))}) },
		func(k *ink) { k.delta(was, api.Delta{Gone: []api.ID{1024}, Chg: []api.Change{{ID: 1024, Lost: 4}}}) },
		func(k *ink) {
			k.delta(list(ent(1025)), api.Delta{Come: list(ent(1025)), Chg: []api.Change{{ID: 1025, New: []api.Comp{life(1)}}}})
		},
		func(k *ink) { k.delta(was, api.Delta{Come: list(ent(1023))}) },
	} {
		mustNotOpen(t, toldStep(d), was, api.ErrForm)
	}
}

func TestOpenBehindAnother(t *testing.T) {
	some, own := snapshots(), 0
	for _, was := range some {
		for _, now := range some {
			b := packed(written(step(9, 4), was, now))
			for _, another := range some {
				if mustDoAsModel(t, b, another) && !equal(was, another) {
					own++
				}
			}
		}
	}
	if own == 0 {
		t.Fatal("no step was its own behind another snapshot")
	}
	// Behind another one it may lead elsewhere, or nowhere.
	p := mustSeal(t, step(2, 1), list(ent(1024, life(5))), list(ent(1024, life(4))))
	mustOpen(t, p, list(ent(1024, life(9))), step(2, 1), list(ent(1024, life(8))))
	mustNotOpen(t, p, list(ent(1024, life(0))), api.ErrForm)
	mustNotOpen(t, p, list(ent(1024, tag(1, 1, 1))), api.ErrForm)
	mustNotOpen(t, p, nil, api.ErrForm)
}

func TestOpenBehindNoSnapshot(t *testing.T) {
	for _, x := range notSnaps() {
		for _, now := range snapshots() {
			mustNotOpen(t, sealedText(written(step(2, 1), nil, now)), x.l, api.ErrForm)
			mustOpen(t, sealedText(written(full(2), nil, now)), x.l, full(2), now)
		}
		// A change of what such a list holds.
		for _, id := range []api.ID{1023, 1024, 1025} {
			for set := range uint64(32) {
				mustNotOpen(t, toldChange(id, 0, 0, set, "1100001100001100001100001100001100001100001100001100000"), x.l, api.ErrForm)
			}
		}
	}
}

// Memory.

// grown has its spare room filled by what tells it.
func grown[T any](l []T, by T) []T {
	n := len(l)
	return append(slices.Clone(l), by, by, by)[:n]
}

func roomy(l []api.Ent) []api.Ent {
	var out []api.Ent
	for _, x := range l {
		out = append(out, api.Ent{ID: x.ID, Comps: grown(x.Comps, comp(77))})
	}
	return grown(out, ent(77))
}

// whole is the lists with their spare room, in new memory.
func whole(l []api.Ent) []api.Ent {
	var out []api.Ent
	for _, x := range l[:cap(l)] {
		out = append(out, ent(x.ID, slices.Clone(x.Comps[:cap(x.Comps)])...))
	}
	return out
}

// spoil writes over all of a list, spare room too.
func spoil[T any](l []T, by T) {
	l = l[:cap(l)]
	for i := range l {
		l[i] = by
	}
}

func spoilSnap(l []api.Ent) {
	for _, x := range l {
		spoil(x.Comps, comp(99, -9, -9, -9))
	}
	spoil(l, ent(99))
}

// mixed is two snapshots between which all that can happen happens.
func mixed() (was, now []api.Ent) {
	was = list(ent(1024, life(1)), ent(1025, pos(1, 1), life(2)), ent(1026, every()...), ent(1028, tag(1, 1, 1)), ent(1029, every()...))
	now = list(ent(1025, vel(1, 1), life(3), body(1, 1, 1)), ent(1026, every()...), ent(1027, every()...), ent(1029, other()...), ent(2048, pos(5, 5), tag(1, 1, 1)))
	return was, now
}

func TestHandedInIsNotChanged(t *testing.T) {
	was, now := mixed()
	was, now = roomy(was), roomy(now)
	wantWas, wantNow := whole(was), whole(now)
	for _, h := range []api.Head{full(3), step(3, 1), {Kind: api.Ack, Epoch: 1}, {Kind: api.Full}} {
		packet.Seal(h, was, now)
	}
	for _, h := range []api.Head{full(3), step(3, 1)} {
		p := grown(mustSeal(t, h, was, now), 77)
		want := slices.Clone(p[:cap(p)])
		mustPeek(t, p, h)
		mustOpen(t, p, was, h, now)
		q := sealed(append(slices.Clone(p[:len(p)-4]), 1))
		mustNotOpen(t, q, was, api.ErrForm)
		if !bytes.Equal(p[:cap(p)], want) {
			t.Fatal("a frame that was handed in is another one")
		}
	}
	if !equal(whole(was), wantWas) || !equal(whole(now), wantNow) {
		t.Fatal("a snapshot that was handed in is another one", whole(was), whole(now))
	}
}

func TestSealSharesNothing(t *testing.T) {
	for _, h := range []api.Head{full(3), step(3, 1)} {
		was, now := mixed()
		want := sealedText(written(h, was, now))
		p, again := mustSeal(t, h, was, now), mustSeal(t, h, was, now)
		spoil(again, 0xee)
		if third := mustSeal(t, h, was, now); !bytes.Equal(p, want) || !bytes.Equal(third, want) {
			t.Fatal("who writes over a frame writes over another one")
		}
		spoilSnap(was)
		spoilSnap(now)
		if !bytes.Equal(p, want) {
			t.Fatal("who writes over a snapshot writes over its frame")
		}
	}
}

func TestOpenSharesNothing(t *testing.T) {
	for _, h := range []api.Head{full(3), step(3, 1)} {
		was, want := mixed()
		was = roomy(was)
		wantWas := whole(was)
		p := mustSeal(t, h, was, want)
		wantP := slices.Clone(p)
		_, now, _ := packet.Open(p, was)
		_, again, _ := packet.Open(p, was)
		spoilSnap(again)
		if !equal(now, want) || !equal(whole(was), wantWas) || !bytes.Equal(p, wantP) {
			t.Fatal("who writes over an answer writes over more")
		}
		mustOpen(t, p, was, h, want)
		spoilSnap(was)
		spoil(p, 0xee)
		if !equal(now, want) {
			t.Fatal("who writes over what was handed in writes over the answer")
		}
		mustStandApart(t, now)
	}
}

// The lists of one answer stand apart: who writes over one, spare room too, changes no other.
func mustStandApart(t *testing.T, l []api.Ent) {
	t.Helper()
	for i := range l {
		want := snap.Copy(l)
		kept := slices.Clone(l[i].Comps[:cap(l[i].Comps)])
		spoil(l[i].Comps, comp(99))
		for j := range l {
			if j != i && !slices.Equal(l[j].Comps, want[j].Comps) {
				t.Fatalf("list %d shares memory with %d", j, i)
			}
		}
		copy(l[i].Comps[:cap(l[i].Comps)], kept)
	}
}

// Long scripts.

func throwComps(d *dice) []api.Comp {
	var l []api.Comp
	for i := range 5 {
		if d.throw(2) == 0 {
			c := [][]api.Comp{every(), other(), least(), most()}[d.throw(4)][i]
			l = append(l, c)
		}
	}
	return l
}

// throwSnap has each of a few IDs or hasn't.
func throwSnap(d *dice) []api.Ent {
	var l []api.Ent
	for _, id := range []api.ID{1024, 1025, 1026, 1041, 1042, 2047, 2048, 1 << 31, greatestFirst, greatestLast} {
		if d.throw(3) > 0 {
			l = append(l, ent(id, throwComps(d)...))
		}
	}
	return l
}

// throwHead is one of those, or a plain one.
func throwHead(d *dice, l []api.Head) api.Head {
	switch d.throw(4) {
	case 0:
		return full(uint32(d.throw(9)))
	case 1:
		return step(uint32(d.throw(9))+9, uint32(d.throw(9)))
	}
	return l[d.throw(len(l))]
}

func TestLongScript(t *testing.T) {
	d, heads := dice(20), rightHeads()
	was := throwSnap(&d)
	for range 3000 {
		h, now := throwHead(&d, heads), throwSnap(&d)
		if h.Kind != api.Full && h.Kind != api.Step {
			now = nil
		}
		p := mustSeal(t, h, was, now)
		mustDoAsModel(t, p[:len(p)-4], throwSnap(&d))
		if h.Kind == api.Step {
			was = now
		}
	}
}

// spoilt is a text with a few bits turned, put in or taken away.
func spoilt(d *dice, s string) string {
	b := []byte(s)
	for range 1 + d.throw(3) {
		i := d.throw(len(b))
		switch d.throw(4) {
		case 0:
			b = slices.Insert(b, i, '0'+byte(d.throw(2)))
		case 1:
			b = slices.Delete(b, i, i+1)
		default:
			b[i] ^= 1
		}
	}
	return string(b)
}

func TestSpoiltBodies(t *testing.T) {
	d, heads, taken := dice(21), rightHeads(), 0
	for range 20000 {
		h, was, now := throwHead(&d, heads), throwSnap(&d), throwSnap(&d)
		if d.throw(2) == 0 {
			now = nudged(&d, was)
		}
		if mustDoAsModel(t, packed(spoilt(&d, written(h, was, now))), was) {
			taken++
		}
	}
	if taken < 500 {
		t.Fatal("hardly any is a packet", taken)
	}
}

// nudged is a snapshot in which some fields are a bit more or less.
func nudged(d *dice, l []api.Ent) []api.Ent {
	out := snap.Copy(l)
	for _, x := range out {
		for i, c := range x.Comps {
			f := d.throw(len(limits(c.Kind)))
			to := int64(c.F[f]) + int64(d.throw(41)) - 20
			if m := limits(c.Kind)[f]; to >= m[0] && to <= m[1] {
				x.Comps[i].F[f] = int32(to)
			}
		}
	}
	return out
}

func TestBytesOfAnySort(t *testing.T) {
	d := dice(22)
	for range 20000 {
		b := make([]byte, d.throw(40))
		for i := range b {
			b[i] = byte(d.throw(256)) & byte(d.throw(256))
		}
		mustDoAsModel(t, b, throwSnap(&d))
		// Hardly any has a right sum, whatever it is.
		if _, e := packet.Peek(b); len(b) >= 4 && e != api.ErrSum && e != api.ErrForm || len(b) < 4 && e != api.ErrShort {
			t.Fatalf("Peek(%x): %d", b, e)
		}
	}
}

// What a call answers hangs on its arguments alone (P2): other calls in between change nothing.
func TestNothingIsKept(t *testing.T) {
	d := dice(23)
	type call struct {
		h        api.Head
		was, now []api.Ent
		p        []byte
	}
	var l []call
	for range 200 {
		was, now := throwSnap(&d), throwSnap(&d)
		h := step(uint32(d.throw(9))+9, 3)
		l = append(l, call{h, was, now, mustSeal(t, h, was, now)})
	}
	for range 2000 {
		x := l[d.throw(len(l))]
		mustNotOpen(t, x.p[:d.throw(4)], x.was, api.ErrShort)
		mustOpen(t, x.p, x.was, x.h, x.now)
		mustPeek(t, x.p, x.h)
		if p, e := packet.Seal(x.h, x.was, x.now); e != api.OK || !bytes.Equal(p, x.p) {
			t.Fatal(p, e, x.p)
		}
	}
}
