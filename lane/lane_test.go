package lane_test

import (
	"bytes"
	"math"
	"slices"
	"testing"

	"pinnace/api"
	"pinnace/lane"
	"pinnace/packet"
	"pinnace/snap"
)

const (
	top     = math.MaxUint32
	longest = api.MaxBody + 4
)

func TestExample(t *testing.T) {
	x := plain(t, 2)
	a, b, c := list(ent(1024, life(5))), list(ent(1024, life(4))), list(ent(1024, life(3)), ent(1025))
	x.mustSendFull(1, a)
	x.mustAck(1, api.OK)
	x.mustBase(1)
	x.mustSendStep(2, 1, a, b)
	x.mustBase(1)
	x.mustSendStep(3, 1, a, c)
	x.mustHaveNoBase()
	x.mustHold(2, 3)
	x.mustSendFull(4, b)
	x.mustHold(3, 4)
}

// Who never answers is sent everything, who answers only what changes.
func TestOnlyWhatChanges(t *testing.T) {
	mute, quick := plain(t, 4), plain(t, 4)
	was := crowd(1024, 300)
	mute.mustSendFull(1, was)
	quick.mustSendFull(1, was)
	for tick := uint32(2); tick < 50; tick++ {
		now := snap.Copy(was)
		now[tick].Comps = every()
		quick.mustAck(tick-1, api.OK)
		if p := mute.mustSendFull(tick, now); len(p) < 300 {
			t.Fatal("everything is short", len(p))
		}
		if p := quick.mustSendStep(tick, tick-1, was, now); len(p) > 40 {
			t.Fatal("what changes is long", len(p))
		}
		was = now
	}
}

// The bytes of a Full and a Step, written out.
func TestBytes(t *testing.T) {
	x := mustNew(t, 2, 1, 4, 100)
	p := x.mustSendFull(5, nil)
	if want := []byte{0x90, 0x50, 0, 0, 0, 0, 0}; !bytes.Equal(p[:len(p)-4], want) {
		t.Fatalf("%x", p)
	}
	x.mustAck(5, api.OK)
	p = x.mustSendStep(7, 5, nil, nil)
	if want := []byte{0x91, 0x70, 0, 0, 0, 0x10, 0, 0}; !bytes.Equal(p[:len(p)-4], want) {
		t.Fatalf("%x", p)
	}
}

// New, P21.1.

func TestNewOfWhatMayBe(t *testing.T) {
	for _, client := range []byte{0, 1, 14, 15} {
		for _, epoch := range []uint32{1, 2, 1 << 31, top - 1, top} {
			for _, k := range []int{1, 2, api.MaxRing - 1, api.MaxRing} {
				for _, budget := range []int{1, 2, 11, 30, longest - 1, longest} {
					x := mustNew(t, client, epoch, k, budget)
					x.mustHold()
					x.mustHaveNoBase()
					now := list(ent(1024, life(5)))
					if p, e := x.send(1, now); e == api.OK {
						h := api.Head{Kind: api.Full, Client: client, Epoch: epoch, Tick: 1}
						if g, l, e := packet.Open(p, nil); g != h || !snap.Same(l, now) || e != api.OK {
							t.Fatal(g, l, e)
						}
					}
				}
			}
		}
	}
}

func TestNewOfWhatMayNotBe(t *testing.T) {
	clients := []byte{0, 15, 16, 17, 128, 255}
	epochs := []uint32{0, 1, top}
	ks := []int{math.MinInt, -1, 0, 1, api.MaxRing, api.MaxRing + 1, math.MaxInt}
	budgets := []int{math.MinInt, -1, 0, 1, longest, longest + 1, math.MaxInt}
	for _, client := range clients {
		for _, epoch := range epochs {
			for _, k := range ks {
				for _, budget := range budgets {
					want := api.OK
					if client > 15 || epoch == 0 || k < 1 || k > 64 || budget < 1 || budget > 4100 {
						want = api.ErrArg
					}
					if l, e := lane.New(client, epoch, k, budget); e != want || (l == nil) != (e != api.OK) {
						t.Fatal(client, epoch, k, budget, l, e)
					}
				}
			}
		}
	}
	for client := range 256 {
		if _, e := lane.New(byte(client), 1, 1, 1); (e == api.OK) != (client < 16) {
			t.Fatal(client, e)
		}
	}
	for n := -2; n < 70; n++ {
		if _, e := lane.New(0, 1, n, 1); (e == api.OK) != (1 <= n && n <= 64) {
			t.Fatal(n, e)
		}
	}
}

// Send, P21.1.

// bytesOf is how many bytes the Full of now has, and the Step from was to now, at these ticks.
func bytesOf(t *testing.T, x *pair, tick, base uint32, was, now []api.Ent) (full, step int) {
	t.Helper()
	h := api.Head{Kind: api.Full, Client: x.m.client, Epoch: x.m.epoch, Tick: tick}
	p, e := packet.Seal(h, nil, now)
	if e != api.OK {
		t.Fatal(e)
	}
	h.Kind, h.Base = api.Step, base
	q, e := packet.Seal(h, was, now)
	if e != api.OK {
		t.Fatal(e)
	}
	return len(p), len(q)
}

func TestFullOfJustTheBudget(t *testing.T) {
	for _, now := range [][]api.Ent{nil, list(ent(1024)), list(ent(1024, every()...), ent(1025, other()...)), crowd(1024, 200), crowd(1024, 3000)} {
		full, _ := bytesOf(t, plain(t, 1), 9, 8, nil, now)
		mustNew(t, 3, 7, 2, full+1).mustSendFull(9, now)
		if p := mustNew(t, 3, 7, 2, full).mustSendFull(9, now); len(p) != full {
			t.Fatal(len(p), full)
		}
		x := mustNew(t, 3, 7, 2, full-1)
		x.mustNotSend(9, now, api.ErrLong)
		x.mustHold()
		mustNew(t, 3, 7, 2, 1).mustNotSend(9, now, api.ErrLong)
	}
}

func TestStepOfJustTheBudget(t *testing.T) {
	// The Full of now is so long that a budget of its Step's bytes hasn't room for it; was is short.
	was := crowd(1024, 100)
	now := snap.Copy(was)
	for i := range 30 {
		now[i].Comps = every()
	}
	full, step := bytesOf(t, plain(t, 1), 2, 1, was, now)
	first, _ := bytesOf(t, plain(t, 1), 1, 0, nil, was)
	if step >= full || first > step {
		t.Fatal(first, step, full)
	}
	for _, y := range []struct {
		budget int
		want   api.Errno
	}{{full, api.OK}, {step + 1, api.OK}, {step, api.OK}, {step - 1, api.ErrLong}} {
		x := mustNew(t, 3, 7, 2, y.budget)
		x.mustSendFull(1, was)
		x.mustAck(1, api.OK)
		if y.want != api.OK {
			x.mustNotSend(2, now, y.want)
			x.mustHold(1)
			x.mustBase(1)
			continue
		}
		if p := x.mustSendStep(2, 1, was, now); len(p) != step {
			t.Fatal(len(p), step)
		}
	}
}

// A Step that is longer than the Full is sent if the budget allows it, and the Full if it doesn't.
func TestStepLongerThanFull(t *testing.T) {
	was, now := crowd(1024, 100), list(ent(5000, life(5)))
	full, step := bytesOf(t, plain(t, 1), 9, 4, was, now)
	if step <= full {
		t.Fatal(step, full)
	}
	for budget := step - 5; budget < step+5; budget++ {
		x := mustNew(t, 3, 7, 2, budget)
		// The Full of was is beyond the budget, and becomes the base bit by bit.
		x.mustSendFull(1, was[:40])
		x.mustAck(1, api.OK)
		x.mustSendStep(2, 1, was[:40], was[:80])
		x.mustAck(2, api.OK)
		x.mustSendStep(4, 2, was[:80], was)
		x.mustAck(4, api.OK)
		if budget >= step {
			x.mustSendStep(9, 4, was, now)
		} else {
			x.mustSendFull(9, now)
		}
		x.mustHold(4, 9)
		x.mustBase(4)
	}
}

// apart is a snapshot whose Full has about as many bytes as it may, and of which another one has nobody.
func apart(i int) []api.Ent { return crowd(api.ID(1024+100000*i), 2500) }

func TestStepBeyondTheBudgetButFullWithin(t *testing.T) {
	was := list(ent(1024, every()...), ent(1025, every()...))
	now := list(ent(1030, other()...), ent(1031, other()...))
	first, _ := bytesOf(t, plain(t, 1), 1, 0, nil, was)
	full, step := bytesOf(t, plain(t, 1), 2, 1, was, now)
	if full != first || step <= full {
		t.Fatal(first, full, step)
	}
	for budget, kind := range map[int]byte{full: api.Full, step - 1: api.Full, step: api.Step} {
		x := mustNew(t, 3, 7, 3, budget)
		x.mustSendFull(1, was)
		x.mustAck(1, api.OK)
		p, e := x.send(2, now)
		if h, _ := packet.Peek(p); e != api.OK || h.Kind != kind {
			t.Fatal(budget, h, e)
		}
		// A Full leaves the base where it is.
		x.mustBase(1)
		x.mustHold(1, 2)
		x.mustSendStep(3, 1, was, was)
	}
}

func TestStepThatCannotBeSealed(t *testing.T) {
	x := plain(t, 4)
	was, now := apart(0), apart(1)
	x.mustSendFull(1, was)
	x.mustAck(1, api.OK)
	if _, e := packet.Seal(api.Head{Kind: api.Step, Client: 3, Epoch: 7, Tick: 2, Base: 1}, was, now); e != api.ErrLong {
		t.Fatal(e)
	}
	x.mustSendFull(2, now)
	x.mustBase(1)
	x.mustHold(1, 2)
	x.mustAck(2, api.OK)
	x.mustSendStep(3, 2, now, now[1:])
}

// What can't be sealed as a Full can be sent as a Step, as long as the base is held.
func TestFullThatCannotBeSealed(t *testing.T) {
	x := plain(t, 2)
	was := crowd(1024, 3200)
	now := crowd(1024, 3400)
	x.mustSendFull(1, was)
	x.mustAck(1, api.OK)
	x.mustSendStep(2, 1, was, now)
	x.mustSendStep(3, 1, was, now)
	x.mustHaveNoBase()
	x.mustNotSend(4, now, api.ErrLong)
	x.mustHold(2, 3)
	x.mustAck(3, api.OK)
	x.mustSendStep(5, 3, now, crowd(1024, 3500))
	x.mustNotSend(6, append(crowd(1024, 3400), crowd(100000, 4000)...), api.ErrLong)
	x.mustSendStep(7, 3, now, now)
}

func TestFarTooLong(t *testing.T) {
	x := plain(t, 2)
	x.mustSendFull(1, nil)
	x.mustAck(1, api.OK)
	x.mustNotSend(2, crowd(1024, 200000), api.ErrLong)
	x.mustSendStep(3, 1, nil, list(ent(1024)))
}

func TestBudgetOfOne(t *testing.T) {
	x := mustNew(t, 0, 1, 1, 1)
	for tick := range uint32(5) {
		x.mustNotSend(tick, nil, api.ErrLong)
		x.mustNotSend(tick, nil, api.ErrStale)
		x.mustAck(tick, api.ErrNone)
	}
	x.mustHold()
	x.mustHaveNoBase()
}

func TestTicksRise(t *testing.T) {
	for _, first := range []uint32{0, 1, 2, 1 << 31, top - 2} {
		x := plain(t, 8)
		x.mustSendFull(first, nil)
		x.mustNotSend(first, nil, api.ErrStale)
		x.mustNotSend(0, nil, api.ErrStale)
		if first > 0 {
			x.mustNotSend(first-1, nil, api.ErrStale)
		}
		x.mustSendFull(first+1, nil)
		x.mustNotSend(first, nil, api.ErrStale)
		x.mustNotSend(first+1, nil, api.ErrStale)
		x.mustSendFull(top, nil)
		for _, tick := range []uint32{0, first, first + 1, top - 1, top} {
			x.mustNotSend(tick, nil, api.ErrStale)
		}
		x.mustHold(slices.Compact([]uint32{first, first + 1, top})...)
	}
}

// What the ring has lost and what was acked doesn't let an older tick in again.
func TestTicksRiseWhateverIsHeld(t *testing.T) {
	x := plain(t, 1)
	x.mustSendFull(5, nil)
	x.mustAck(5, api.OK)
	x.mustNotSend(4, nil, api.ErrStale)
	x.mustNotSend(5, nil, api.ErrStale)
	x.mustSendStep(6, 5, nil, nil)
	x.mustNotSend(5, nil, api.ErrStale)
	x.mustNotSend(6, nil, api.ErrStale)
}

func TestTicksFromZeroToTheGreatest(t *testing.T) {
	x := plain(t, 3)
	a, b := list(ent(1024, life(1))), list(ent(1024, life(2)))
	x.mustSendFull(0, a)
	x.mustHaveNoBase()
	x.mustHold(0)
	x.mustAck(0, api.OK)
	x.mustBase(0)
	x.mustAck(0, api.ErrStale)
	x.mustSendStep(1, 0, a, b)
	x.mustSendStep(top, 0, a, a)
	x.mustHold(0, 1, top)
	x.mustAck(top, api.OK)
	x.mustBase(top)
	x.mustHold(top)
	x.mustAck(top, api.ErrStale)
	x.mustNotSend(top, a, api.ErrStale)
	x.mustNotSend(0, a, api.ErrStale)
}

// The tick 0 is a tick like any other: before the first Ack it is no base.
func TestTickZeroIsNoBaseBeforeItsAck(t *testing.T) {
	x := plain(t, 3)
	x.mustSendFull(0, nil)
	x.mustHaveNoBase()
	x.mustSendFull(1, nil)
	x.mustAck(0, api.OK)
	x.mustSendStep(2, 0, nil, nil)
}

func TestSendBehindTooLong(t *testing.T) {
	long := crowd(1024, 200)
	for _, tick := range []uint32{1, 10, top - 1} {
		x := mustNew(t, 3, 7, 4, 100)
		x.mustNotSend(tick, long, api.ErrLong)
		x.mustHold()
		for _, old := range []uint32{tick, tick - 1, 0} {
			x.mustNotSend(old, nil, api.ErrStale)
			x.mustNotSend(old, long, api.ErrStale)
		}
		x.mustAck(tick, api.ErrNone)
		x.mustSendFull(tick+1, nil)
	}
	x := mustNew(t, 3, 7, 4, 100)
	x.mustNotSend(0, long, api.ErrLong)
	x.mustNotSend(0, nil, api.ErrStale)
	x.mustNotSend(top, long, api.ErrLong)
	x.mustNotSend(top, nil, api.ErrStale)
	x.mustHold()
}

// What was too long leaves what is held and the base.
func TestTooLongLeavesTheBase(t *testing.T) {
	x := mustNew(t, 3, 7, 2, 100)
	was := list(ent(1024, life(5)))
	x.mustSendFull(1, was)
	x.mustAck(1, api.OK)
	x.mustSendStep(2, 1, was, nil)
	for tick := uint32(3); tick < 9; tick++ {
		x.mustNotSend(tick, crowd(1024, 200), api.ErrLong)
		x.mustHold(1, 2)
		x.mustBase(1)
		x.mustAck(tick, api.ErrNone)
	}
	x.mustSendStep(9, 1, was, was)
	x.mustHold(2, 9)
}

// notSnaps is what can be wrong with a snapshot, and its error.
func notSnaps() []struct {
	l    []api.Ent
	want api.Errno
} {
	return []struct {
		l    []api.Ent
		want api.Errno
	}{
		{list(ent(1024, comp(6))), api.ErrArg},
		{list(ent(1024, comp(200))), api.ErrArg},
		{list(ent(0)), api.ErrForm},
		{list(ent(1023)), api.ErrForm},
		{list(ent(1024), ent(1024)), api.ErrForm},
		{list(ent(1025), ent(1024)), api.ErrForm},
		{list(ent(1024, tag(0, 0, 0), pos(0, 0))), api.ErrForm},
		{list(ent(1024, pos(0, 0), pos(0, 0))), api.ErrForm},
		{list(ent(1024, comp(api.Life, 1, 1))), api.ErrForm},
		{list(ent(1024, breeds(1, 0, 0))), api.ErrForm},
		{list(ent(1024, life(4096))), api.ErrRange},
		{list(ent(1024), ent(1025, life(-1))), api.ErrRange},
	}
}

// What is no snapshot is refused, and its tick is free still; what is stale goes ahead of it, and it ahead of what is too long.
func TestSendOfNoSnapshot(t *testing.T) {
	was := list(ent(1024, every()...))
	for _, y := range notSnaps() {
		x := plain(t, 3)
		x.mustNotSend(0, y.l, y.want)
		x.mustSendFull(0, was)
		x.mustNotSend(5, y.l, y.want)
		x.mustSendFull(1, was)
		x.mustAck(1, api.OK)
		x.mustNotSend(top, y.l, y.want)
		x.mustNotSend(2, y.l, y.want)
		x.mustHold(1)
		x.mustBase(1)
		x.mustNotSend(1, y.l, api.ErrStale)
		x.mustNotSend(0, y.l, api.ErrStale)
		x.mustSendStep(2, 1, was, nil)
		tight := mustNew(t, 3, 7, 3, 1)
		tight.mustNotSend(1, y.l, y.want)
		tight.mustNotSend(1, nil, api.ErrLong)
		tight.mustNotSend(1, y.l, api.ErrStale)
	}
	for _, last := range []struct {
		x    api.Ent
		want api.Errno
	}{{ent(1<<20, comp(6)), api.ErrArg}, {ent(1024), api.ErrForm}, {ent(1<<20, life(4096)), api.ErrRange}} {
		x := plain(t, 3)
		x.mustNotSend(1, append(crowd(1024, 8000), last.x), last.want)
		x.mustNotSend(1, crowd(1024, 8000), api.ErrLong)
		x.mustNotSend(1, append(crowd(1024, 8000), last.x), api.ErrStale)
	}
}

// A Send that answered ErrStale counts for nothing.
func TestSendBehindStale(t *testing.T) {
	x := plain(t, 3)
	x.mustSendFull(5, nil)
	x.mustNotSend(5, nil, api.ErrStale)
	x.mustNotSend(2, nil, api.ErrStale)
	x.mustNotSend(4, nil, api.ErrStale)
	x.mustSendFull(6, nil)
}

func TestNobody(t *testing.T) {
	x := plain(t, 5)
	some := list(ent(1024, every()...))
	x.mustSendFull(1, nil)
	x.mustSendFull(2, []api.Ent{})
	x.mustAck(2, api.OK)
	x.mustBase(2)
	x.mustSendStep(3, 2, nil, nil)
	x.mustSendStep(4, 2, nil, []api.Ent{})
	x.mustSendStep(5, 2, nil, some)
	x.mustAck(5, api.OK)
	x.mustSendStep(6, 5, some, nil)
	x.mustSendStep(7, 5, some, []api.Ent{{ID: 1024, Comps: []api.Comp{}}})
	a, _ := plain(t, 1).send(1, nil)
	b, _ := plain(t, 1).send(1, []api.Ent{})
	if !bytes.Equal(a, b) {
		t.Fatal("nobody and none are not the same")
	}
}

func TestKOfOne(t *testing.T) {
	x := plain(t, 1)
	a, b := list(ent(1024, life(1))), list(ent(1024, life(2)))
	x.mustSendFull(1, a)
	x.mustAck(1, api.OK)
	x.mustBase(1)
	x.mustSendStep(2, 1, a, b)
	x.mustHold(2)
	x.mustHaveNoBase()
	x.mustAck(1, api.ErrStale)
	x.mustSendFull(3, a)
	x.mustAck(2, api.ErrNone)
	x.mustAck(3, api.OK)
	x.mustSendStep(4, 3, a, b)
	x.mustAck(4, api.OK)
	x.mustSendStep(5, 4, b, a)
	x.mustSendFull(6, a)
}

func TestKOfTheGreatest(t *testing.T) {
	x := plain(t, api.MaxRing)
	shots := map[uint32][]api.Ent{}
	for tick := range uint32(64) {
		shots[tick] = list(ent(1024+api.ID(tick), every()...))
		x.mustSendFull(tick, shots[tick])
	}
	x.mustAck(0, api.OK)
	x.mustBase(0)
	x.mustSendStep(64, 0, shots[0], nil)
	if l := x.l.Held(); len(l) != 64 || l[0] != 1 || l[63] != 64 {
		t.Fatal(l)
	}
	x.mustHaveNoBase()
	x.mustAck(1, api.OK)
	for tick := uint32(65); tick < 128; tick++ {
		if tick == 65 {
			x.mustBase(1)
			x.mustSendStep(tick, 1, shots[1], nil)
			continue
		}
		x.mustSendFull(tick, nil)
	}
	x.mustAck(127, api.OK)
	x.mustHold(127)
}

// Ack, P21.2.

// five is a lane that holds five, of ticks 10, 20, 30, 40 and 50.
func five(t *testing.T) (*pair, func(tick uint32) []api.Ent) {
	t.Helper()
	x := plain(t, 5)
	of := func(tick uint32) []api.Ent { return list(ent(1024, life(int32(tick))), ent(1024+api.ID(tick))) }
	for tick := uint32(10); tick <= 50; tick += 10 {
		x.mustSendFull(tick, of(tick))
	}
	return x, of
}

func TestAckOfOldestNewestAndBetween(t *testing.T) {
	for i := range uint32(5) {
		x, of := five(t)
		tick := 10 * (i + 1)
		x.mustAck(tick, api.OK)
		x.mustBase(tick)
		var left []uint32
		for n := tick; n <= 50; n += 10 {
			left = append(left, n)
		}
		x.mustHold(left...)
		for n := uint32(0); n <= tick; n++ {
			x.mustAck(n, api.ErrStale)
		}
		x.mustAck(tick+1, api.ErrNone)
		x.mustAck(51, api.ErrNone)
		x.mustAck(top, api.ErrNone)
		x.mustHold(left...)
		x.mustSendStep(60, tick, of(tick), of(60))
		for _, n := range left[1:] {
			x.mustAck(n, api.OK)
			x.mustBase(n)
		}
		x.mustAck(60, api.OK)
		x.mustHold(60)
		x.mustSendStep(61, 60, of(60), of(61))
	}
}

func TestAckOfWhatWasNeverSent(t *testing.T) {
	x := plain(t, 3)
	for _, tick := range []uint32{0, 1, 5, top} {
		x.mustAck(tick, api.ErrNone)
	}
	x.mustSendFull(5, nil)
	for _, tick := range []uint32{0, 4, 6, top} {
		x.mustAck(tick, api.ErrNone)
		x.mustHold(5)
		x.mustHaveNoBase()
	}
	// An Ack that answered an error counts for nothing.
	x.mustAck(5, api.OK)
	x.mustBase(5)
	x.mustAck(4, api.ErrStale)
	x.mustAck(6, api.ErrNone)
}

func TestAckOfWhatIsHeldNoMore(t *testing.T) {
	x := plain(t, 2)
	x.mustSendFull(1, nil)
	x.mustSendFull(2, nil)
	x.mustSendFull(3, nil)
	x.mustAck(1, api.ErrNone)
	x.mustHaveNoBase()
	x.mustAck(2, api.OK)
	x.mustAck(1, api.ErrStale)
	x.mustSendStep(4, 2, nil, nil)
	x.mustHaveNoBase()
	x.mustSendFull(5, nil)
	x.mustAck(2, api.ErrStale)
	x.mustAck(3, api.ErrNone)
	x.mustHold(4, 5)
	x.mustAck(4, api.OK)
	x.mustHold(4, 5)
	x.mustBase(4)
}

// A base that is held no more never comes back, and a new Ack brings another.
func TestBaseIsLostAndWon(t *testing.T) {
	x := plain(t, 3)
	of := func(tick uint32) []api.Ent { return list(ent(1024, life(int32(tick)))) }
	x.mustSendFull(1, of(1))
	x.mustAck(1, api.OK)
	for tick := uint32(2); tick <= 4; tick++ {
		x.mustSendStep(tick, 1, of(1), of(tick))
	}
	x.mustHaveNoBase()
	for tick := uint32(5); tick < 9; tick++ {
		x.mustSendFull(tick, of(tick))
		x.mustHaveNoBase()
	}
	x.mustHold(6, 7, 8)
	x.mustAck(7, api.OK)
	x.mustHold(7, 8)
	x.mustSendStep(9, 7, of(7), of(9))
	x.mustHold(7, 8, 9)
	x.mustBase(7)
}

// What a Step told is a base like what a Full told, and what the net lost, too.
func TestBaseThatWasSentAsStep(t *testing.T) {
	x := plain(t, 4)
	was, now := list(ent(1024, every()...), ent(1025)), list(ent(1024, other()...), ent(1026))
	x.mustSendFull(1, was)
	x.mustAck(1, api.OK)
	x.mustSendStep(2, 1, was, now)
	x.mustAck(2, api.OK)
	x.mustSendStep(3, 2, now, was)
	x.mustSendStep(4, 2, now, now)
}

// Base, Held, Epoch, P21.3.

func TestNilLane(t *testing.T) {
	var l *lane.Lane
	for _, tick := range []uint32{0, 1, top} {
		for _, now := range [][]api.Ent{nil, list(ent(1024)), list(ent(1)), crowd(1024, 8000)} {
			if p, e := l.Send(tick, now); len(p) != 0 || e != api.ErrNone {
				t.Fatal(p, e)
			}
		}
		if e := l.Ack(tick); e != api.ErrNone {
			t.Fatal(e)
		}
	}
	if tick, ok := l.Base(); tick != 0 || ok {
		t.Fatal(tick, ok)
	}
	if ticks := l.Held(); len(ticks) != 0 {
		t.Fatal(ticks)
	}
	if n := l.Epoch(); n != 0 {
		t.Fatal(n)
	}
}

func TestEpochStays(t *testing.T) {
	for _, epoch := range []uint32{1, 2, 1 << 16, top} {
		x := mustNew(t, 1, epoch, 2, 100)
		for tick := range uint32(5) {
			x.send(tick, nil)
			x.mustAck(tick, api.OK)
			if n := x.l.Epoch(); n != epoch {
				t.Fatal(n, epoch)
			}
		}
	}
}

// Memory.

// grown has its spare room filled by what tells it.
func grown[T any](l []T, by T) []T {
	n := len(l)
	return append(slices.Clone(l), by, by, by)[:n]
}

func roomy(l []api.Ent) []api.Ent {
	var out []api.Ent
	for _, x := range l {
		out = append(out, api.Ent{ID: x.ID, Comps: grown(x.Comps, comp(77))})
	}
	return grown(out, ent(77))
}

// whole is the lists with their spare room, in new memory.
func whole(l []api.Ent) []api.Ent {
	var out []api.Ent
	for _, x := range l[:cap(l)] {
		out = append(out, ent(x.ID, slices.Clone(x.Comps[:cap(x.Comps)])...))
	}
	return out
}

// spoil writes over all of a list, spare room too.
func spoil[T any](l []T, by T) {
	l = l[:cap(l)]
	for i := range l {
		l[i] = by
	}
}

func spoilSnap(l []api.Ent) {
	for _, x := range l {
		spoil(x.Comps, comp(99, -9, -9, -9))
	}
	spoil(l, ent(99))
}

// mixed is two snapshots between which all that can happen happens.
func mixed() (was, now []api.Ent) {
	was = list(ent(1024, life(1)), ent(1025, pos(1, 1), life(2)), ent(1026, every()...), ent(1028, tag(1, 1, 1)), ent(1029, every()...))
	now = list(ent(1025, vel(1, 1), life(3), body(1, 1, 1)), ent(1026, every()...), ent(1027, every()...), ent(1029, other()...), ent(2048, pos(5, 5), tag(1, 1, 1)))
	return was, now
}

func TestHandedInIsNotChanged(t *testing.T) {
	was, now := mixed()
	was, now = roomy(was), roomy(now)
	wantWas, wantNow := whole(was), whole(now)
	for _, budget := range []int{1, 100, longest} {
		x := mustNew(t, 3, 7, 2, budget)
		for tick := uint32(1); tick < 9; tick++ {
			x.send(tick, was)
			x.l.Ack(tick)
			x.m.ack(tick)
			x.send(tick, now)
			x.send(tick+100, slices.Clone(now))
			x.send(tick, was[:1:1])
		}
	}
	if !snap.Same(whole(was), wantWas) || !snap.Same(whole(now), wantNow) {
		t.Fatal("a snapshot that was handed in is another one")
	}
}

// Who writes over what was handed in, spare room too, changes no base.
func TestHandedInIsNotKept(t *testing.T) {
	x := plain(t, 3)
	was, now := mixed()
	first := roomy(was)
	x.mustSendFull(1, first)
	spoilSnap(first)
	x.mustAck(1, api.OK)
	second := roomy(now)
	x.mustSendStep(2, 1, was, second)
	spoilSnap(second)
	x.mustAck(2, api.OK)
	third := roomy(was)
	p := x.mustSendStep(3, 2, now, third)
	kept := slices.Clone(p)
	spoilSnap(third)
	if !bytes.Equal(p, kept) {
		t.Fatal("who writes over a snapshot writes over its frame")
	}
	x.mustAck(3, api.OK)
	x.mustSendStep(4, 3, was, now)
}

// What was refused isn't kept either.
func TestRefusedIsNotKept(t *testing.T) {
	x := mustNew(t, 3, 7, 3, 200)
	was, now := mixed()
	x.mustSendFull(1, was)
	long := crowd(1024, 500)
	x.mustNotSend(2, long, api.ErrLong)
	spoilSnap(long)
	x.mustNotSend(2, now, api.ErrStale)
	x.mustHold(1)
	x.mustAck(1, api.OK)
	x.mustSendStep(3, 1, was, now)
}

func TestHandedOutIsNew(t *testing.T) {
	x := plain(t, 4)
	was, now := mixed()
	frames, copies := [][]byte{}, [][]byte{}
	note := func(p []byte) {
		frames, copies = append(frames, p), append(copies, slices.Clone(p))
	}
	note(x.mustSendFull(1, was))
	x.mustAck(1, api.OK)
	held := x.l.Held()
	for tick := uint32(2); tick < 8; tick++ {
		p, e := x.send(tick, now)
		if e != api.OK {
			t.Fatal(e)
		}
		note(p)
	}
	if !slices.Equal(held, []uint32{1}) {
		t.Fatal("later calls change what Held answered", held)
	}
	for i := range frames {
		if !bytes.Equal(frames[i], copies[i]) {
			t.Fatal("later calls change a frame", i)
		}
		spoil(frames[i], 0xee)
		for k := i + 1; k < len(frames); k++ {
			if !bytes.Equal(frames[k], copies[k]) {
				t.Fatal("two frames share memory", i, k)
			}
		}
	}
	a, b := x.l.Held(), x.l.Held()
	spoil(a, 99)
	if !slices.Equal(b, []uint32{4, 5, 6, 7}) {
		t.Fatal("two answers of Held share memory", b)
	}
	spoil(b, 99)
	x.look()
	x.mustAck(6, api.OK)
	x.mustSendStep(9, 6, now, was)
}

// Lanes know nothing of each other.
func TestLanesApart(t *testing.T) {
	a, b := mustNew(t, 1, 1, 2, 200), mustNew(t, 2, 9, 3, longest)
	was, now := mixed()
	a.mustSendFull(5, was)
	b.mustAck(5, api.ErrNone)
	b.mustSendFull(1, now)
	a.mustAck(5, api.OK)
	b.mustHaveNoBase()
	b.mustSendFull(2, was)
	b.mustAck(1, api.OK)
	a.mustSendStep(6, 5, was, now)
	b.mustSendStep(3, 1, now, was)
}

// Long scripts.

func throwComps(d *dice) []api.Comp {
	var l []api.Comp
	for i := range 5 {
		if d.throw(2) == 0 {
			l = append(l, [][]api.Comp{every(), other()}[d.throw(2)][i])
		}
	}
	return l
}

// throwSnap is a snapshot near was, or far from it; and now and then none.
func throwSnap(d *dice, was []api.Ent) []api.Ent {
	switch d.throw(12) {
	case 0:
		wrong := notSnaps()
		return wrong[d.throw(len(wrong))].l
	case 1:
		return nil
	case 2, 3, 4:
		var l []api.Ent
		for id := range api.ID(12) {
			if d.throw(3) > 0 {
				l = append(l, ent(1024+5*id, throwComps(d)...))
			}
		}
		return l
	}
	l := snap.Copy(was)
	if len(l) > 0 {
		l[d.throw(len(l))].Comps = throwComps(d)
	}
	return l
}

// throwTick is mostly a little more than the last one.
func throwTick(d *dice, last uint32) uint32 {
	switch d.throw(8) {
	case 0:
		return last - uint32(d.throw(3))
	case 1:
		return last + uint32(d.throw(30))
	}
	return last + 1
}

// script is one lane's, by its model, and tells what it has sent.
func script(t *testing.T, seed int) [3]int {
	d := dice(seed)
	x := mustNew(t, byte(d.throw(16)), uint32(d.throw(300)+1), []int{1, 2, 3, 5, 8, 64}[d.throw(6)], []int{12, 20, 40, 60, 90, 150, longest}[d.throw(7)])
	var was []api.Ent
	var sent [3]int
	tick := uint32(d.throw(3))
	for range 300 {
		if d.throw(3) == 0 {
			back := uint32(d.throw(1 + d.throw(8)))
			if e, want := x.l.Ack(tick-back), x.m.ack(tick-back); e != want {
				t.Fatalf("Ack(%d) = %d, not %d", tick-back, e, want)
			}
			x.look()
			continue
		}
		next, now := throwTick(&d, tick), throwSnap(&d, was)
		p, e := x.send(next, now)
		if e != api.OK {
			if e == api.ErrLong {
				tick, sent[0] = next, sent[0]+1
			}
			continue
		}
		h, _ := packet.Peek(p)
		sent[h.Kind]++
		tick, was = next, now
	}
	return sent
}

func TestLongScripts(t *testing.T) {
	var all [3]int
	for seed := range 300 {
		for i, n := range script(t, seed) {
			all[i] += n
		}
	}
	// The scripts are worth something only if each thing comes to pass in them.
	for i, n := range all {
		if n < 1000 {
			t.Fatal("hardly any of them", i, all)
		}
	}
}

// A client that takes what comes, and answers as the net lets it, has always what it was to have.
func TestClientHasWhatWasSent(t *testing.T) {
	steps := 0
	for seed := range 100 {
		d := dice(seed)
		l, e := lane.New(4, 9, 1+d.throw(8), 200)
		if e != api.OK {
			t.Fatal(e)
		}
		has := map[uint32][]api.Ent{}
		var now []api.Ent
		for tick := uint32(1); tick < 200; tick++ {
			for now = throwSnap(&d, now); snap.Form(now) != api.OK; now = throwSnap(&d, now) {
			}
			p, e := l.Send(tick, now)
			if e == api.ErrLong || d.throw(3) == 0 {
				continue
			}
			h, e := packet.Peek(p)
			if e != api.OK || len(p) > 200 {
				t.Fatal(h, e, len(p))
			}
			was, ok := has[h.Base]
			if h.Kind == api.Step {
				steps++
				if !ok {
					t.Fatal("a Step from what the client hasn't said to have", h)
				}
			}
			_, got, e := packet.Open(p, was)
			if e != api.OK || !snap.Same(got, now) {
				t.Fatal(h, got, now, e)
			}
			if d.throw(3) > 0 {
				if e := l.Ack(tick); e != api.OK {
					t.Fatal(tick, e)
				}
				has[tick] = got
			}
		}
	}
	if steps < 1000 {
		t.Fatal("hardly any steps", steps)
	}
}

// The same calls are answered the same, whatever other lanes were told between.
func TestSameCallsSameAnswers(t *testing.T) {
	run := func(budget int) [][]byte {
		d := dice(5)
		l, _ := lane.New(1, 1, 3, budget)
		noise, _ := lane.New(1, 1, 3, longest)
		var out [][]byte
		var now []api.Ent
		for tick := range uint32(200) {
			now = throwSnap(&d, now)
			p, e := l.Send(tick, now)
			out = append(out, p, []byte{byte(e)})
			if d.throw(2) == 0 {
				out = append(out, []byte{byte(l.Ack(tick))})
			}
			noise.Send(tick, nil)
		}
		return out
	}
	for _, budget := range []int{60, 100, longest} {
		if !slices.EqualFunc(run(budget), run(budget), bytes.Equal) {
			t.Fatal("two runs differ")
		}
	}
}
