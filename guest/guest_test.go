package guest_test

import (
	"bytes"
	"math"
	"slices"
	"testing"

	"pinnace/api"
	"pinnace/guest"
	"pinnace/packet"
	"pinnace/snap"
)

const (
	top     = math.MaxUint32
	longest = api.MaxBody + 4
)

func TestExample(t *testing.T) {
	x := mustNew(t, 0, 20, 3)
	x.mustConnect()
	full := x.full(5, ent(2048, life(7)))
	p, e := x.receive(full)
	if e != api.OK {
		t.Fatal(e)
	}
	mustBe(t, p, api.Head{Kind: api.Ack, Epoch: 1, Tick: 5})
	x.mustKnow(2048, 1024)
	x.mustHave(ent(1024, life(7)))
	x.mustReceive(full, api.ErrStale)
	x.mustReceive(x.step(6, 4, nil, nil), api.ErrBase)
	if l := x.c.Read(); !snap.Same(l, list(ent(2048, life(7)))) {
		t.Fatal(l)
	}
}

// New, P23.1.

func TestNew(t *testing.T) {
	clients := []byte{0, 1, 15, 16, 17, 255}
	ns := []int{math.MinInt, -1, 0, 1, 2, 1024, 1025, math.MaxInt}
	ks := []int{math.MinInt, -1, 0, 1, 2, 64, 65, math.MaxInt}
	for _, client := range clients {
		for _, n := range ns {
			for _, k := range ks {
				want := api.OK
				if client > 15 || n < 1 || n > 1024 || k < 1 || k > 64 {
					want = api.ErrArg
				}
				c, e := guest.New(client, n, k)
				if e != want || (c == nil) != (e != api.OK) {
					t.Fatal(client, n, k, e)
				}
				if e == api.OK {
					x := mustNew(t, client, n, k)
					x.mustAgain(api.ErrState)
					x.mustLeave(api.ErrState)
					mustBe(t, x.mustConnect(), api.Head{Kind: api.Connect, Client: client, Epoch: 1})
				}
			}
		}
	}
}

func TestNewIsOff(t *testing.T) {
	c, _ := guest.New(7, 10, 2)
	if tick, ok := c.Taken(); c.On() || c.Epoch() != 0 || tick != 0 || ok || len(c.Held()) != 0 || len(c.Map()) != 0 || len(c.World()) != 0 || len(c.Read()) != 0 {
		t.Fatal("a new client has something")
	}
	if id, ok := c.Local(0); id != 0 || ok {
		t.Fatal(id, ok)
	}
}

// Connect, Again, Leave, P23.1.

func TestConnect(t *testing.T) {
	x := mustNew(t, 2, 10, 3)
	for epoch := uint32(1); epoch < 40; epoch++ {
		p := x.mustConnect()
		mustBe(t, p, api.Head{Kind: api.Connect, Client: 2, Epoch: epoch})
		if !x.c.On() || x.c.Epoch() != epoch {
			t.Fatal(x.c.On(), x.c.Epoch())
		}
		if epoch%3 == 0 {
			x.mustTake(epoch, ent(1024, life(1)))
		}
		if epoch%4 == 0 {
			x.mustLeave(api.OK)
			if x.c.On() || x.c.Epoch() != epoch {
				t.Fatal(x.c.On(), x.c.Epoch())
			}
		}
	}
	// The bytes of the first: 3 of 3 bits, 2 of 4, 1 of 5.
	x = mustNew(t, 2, 10, 3)
	if p := x.mustConnect(); !bytes.Equal(p[:len(p)-4], []byte{0x93, 0x00}) {
		t.Fatalf("%x", p)
	}
}

// Who connects while it is on knows nobody any more, and its next ones have other numbers.
func TestConnectWhileOn(t *testing.T) {
	x := on(t, 10, 3)
	x.mustTake(7, ent(5000, life(5)), ent(6000, every()...))
	x.mustTake(9, ent(3000), ent(5000), ent(6000, every()...))
	x.mustKnow(3000, 1026, 5000, 1024, 6000, 1025)
	x.mustConnect()
	x.mustKnow()
	x.mustHave()
	x.mustHold()
	if tick, ok := x.c.Taken(); tick != 0 || ok || len(x.c.Read()) != 0 {
		t.Fatal(tick, ok)
	}
	// By rising net IDs the slots 2, 0, 1 were freed; that which was freed last is taken first. And ticks begin anew.
	x.mustTake(1, ent(5000), ent(5001), ent(5002), ent(5003))
	x.mustKnow(5000, 2049, 5001, 2048, 5002, 2050, 5003, 1027)
}

// What came of the epoch before is nothing any more.
func TestConnectForgetsWhatWasHeld(t *testing.T) {
	x := on(t, 10, 3)
	was := list(ent(1024, life(5)))
	x.mustTake(4, was...)
	old := x.step(5, 4, was, nil)
	x.mustConnect()
	x.mustReceive(old, api.ErrEpoch)
	x.mustReceive(x.step(5, 4, was, nil), api.ErrBase)
	x.mustTake(4, was...)
	x.mustReceive(x.step(5, 4, was, nil), api.OK)
}

func TestEpochs(t *testing.T) {
	x := mustNew(t, 4, 10, 3)
	guest.Begin(x.c, top-2)
	x.m.epoch = top - 2
	mustBe(t, x.mustConnect(), api.Head{Kind: api.Connect, Client: 4, Epoch: top - 1})
	mustBe(t, x.mustConnect(), api.Head{Kind: api.Connect, Client: 4, Epoch: top})
	x.mustTake(9, ent(1024, life(1)))
	// There is none behind the last, and it stays what it is.
	p, e := x.c.Connect()
	if len(p) != 0 || e != api.ErrEnd {
		t.Fatal(p, e)
	}
	x.same()
	if !x.c.On() || x.c.Epoch() != top || len(x.c.World()) != 1 {
		t.Fatal(x.c.On(), x.c.Epoch(), x.c.World())
	}
	mustBe(t, x.mustLeave(api.OK), api.Head{Kind: api.Reset, Client: 4, Epoch: top})
	if p, e := x.c.Connect(); len(p) != 0 || e != api.ErrEnd || x.c.On() {
		t.Fatal(p, e)
	}
	x.same()
	x.mustAgain(api.ErrState)
}

func TestAgain(t *testing.T) {
	x := mustNew(t, 9, 10, 3)
	x.mustAgain(api.ErrState)
	p := x.mustConnect()
	for range 3 {
		if q := x.mustAgain(api.OK); !bytes.Equal(p, q) {
			t.Fatalf("%x, %x", p, q)
		}
	}
	// What is refused isn't taken.
	x.mustReceive(x.step(2, 1, nil, nil), api.ErrBase)
	x.mustReceive(x.full(3, crowd(1024, 11)...), api.ErrFull)
	x.mustReceive(spoilt(x.full(3)), api.ErrSum)
	x.mustAgain(api.OK)
	// A snapshot of nobody is one, and one of tick 0 too.
	x.mustTake(0)
	x.mustAgain(api.ErrState)
	q := x.mustConnect()
	if r := x.mustAgain(api.OK); !bytes.Equal(q, r) || bytes.Equal(p, q) {
		t.Fatalf("%x, %x", q, r)
	}
	x.mustLeave(api.OK)
	x.mustAgain(api.ErrState)
	x.mustConnect()
	x.mustReceive(x.bare(api.Reset, 9, 3, 0), api.OK)
	x.mustAgain(api.ErrState)
}

func TestLeave(t *testing.T) {
	x := mustNew(t, 15, 10, 3)
	x.mustLeave(api.ErrState)
	x.mustConnect()
	mustBe(t, x.mustLeave(api.OK), api.Head{Kind: api.Reset, Client: 15, Epoch: 1})
	x.mustLeave(api.ErrState)
	x.mustConnect()
	x.mustTake(5, ent(7000, life(1)), ent(8000))
	x.mustTake(6, ent(2000), ent(7000, life(1)), ent(8000))
	mustBe(t, x.mustLeave(api.OK), api.Head{Kind: api.Reset, Client: 15, Epoch: 2})
	x.mustKnow()
	x.mustHave()
	x.mustHold()
	if _, ok := x.c.Taken(); ok || x.c.On() || x.c.Epoch() != 2 {
		t.Fatal("it is there still")
	}
	x.mustReceive(x.full(7), api.ErrState)
	x.mustConnect()
	x.mustTake(1, ent(9000), ent(9001), ent(9002))
	x.mustKnow(9000, 2049, 9001, 2048, 9002, 2050)
}

// Receive, P23.2.

func TestReceiveOfNoFrame(t *testing.T) {
	for _, x := range []*pair{mustNew(t, 3, 10, 3), on(t, 10, 3)} {
		if x.c.On() {
			x.mustTake(4, ent(1024, life(1)))
		}
		x.mustReceive(nil, api.ErrShort)
		x.mustReceive([]byte{}, api.ErrShort)
		x.mustReceive([]byte{1, 2, 3}, api.ErrShort)
		x.mustReceive(make([]byte, longest+1), api.ErrLong)
		x.mustReceive([]byte{1, 2, 3, 4}, api.ErrSum)
		x.mustReceive(make([]byte, 4), api.ErrForm)
		x.mustReceive(longer(t, make([]byte, 4)), api.ErrForm)
	}
}

// Whatever bits that stand near each other are turned, nothing happens.
func TestReceiveOfSpoilt(t *testing.T) {
	x := on(t, 10, 3)
	was, now := list(ent(1024, life(1)), ent(1025)), list(ent(1025, every()...), ent(1026))
	x.mustTake(4, was...)
	for _, p := range [][]byte{x.full(5, now...), x.step(5, 4, was, now), x.bare(api.Reset, 3, 1, 0)} {
		for i := range 8 * len(p) {
			for _, pattern := range []uint32{1, 3, 0x80000001, 0xffffffff} {
				q := bytes.Clone(p)
				for k := range 32 {
					if at := i + k; pattern>>k&1 == 1 && at < 8*len(q) {
						q[at/8] ^= 1 << (at % 8)
					}
				}
				if a, e := x.c.Receive(q); len(a) != 0 || e != api.ErrSum {
					t.Fatal(i, pattern, a, e)
				}
			}
		}
		for n := range p {
			if a, e := x.c.Receive(p[:n]); len(a) != 0 || e == api.OK {
				t.Fatal(n, a, e)
			}
		}
		x.same()
	}
}

// Of several errors the one that the chapter names first goes first.
func TestReceiveErrorsInOrder(t *testing.T) {
	x := on(t, 3, 2)
	held := list(ent(1024, life(1)))
	x.mustTake(10, held...)
	h := api.Head{Kind: api.Full, Client: 3, Epoch: 1, Tick: 11}
	with := func(change func(*api.Head)) api.Head {
		g := h
		change(&g)
		return g
	}
	alien := with(func(h *api.Head) { h.Client, h.Epoch, h.Tick = 4, 9, 1 })
	else1 := with(func(h *api.Head) { h.Epoch, h.Tick = 2, 1 })
	stale := with(func(h *api.Head) { h.Tick = 10 })
	base := with(func(h *api.Head) { h.Kind, h.Base = api.Step, 9 })
	step := with(func(h *api.Head) { h.Kind, h.Base = api.Step, 10 })
	oldStep := with(func(h *api.Head) { h.Kind, h.Tick, h.Base = api.Step, 10, 9 })
	many := crowd(1024, 4)
	for i, y := range []struct {
		p    []byte
		want api.Errno
	}{
		{spoilt(frameOf(t, alien, nil, many)), api.ErrSum},
		{longer(t, frameOf(t, alien, nil, many)), api.ErrNone},
		{longer(t, frameOf(t, else1, nil, many)), api.ErrEpoch},
		{longer(t, frameOf(t, stale, nil, many)), api.ErrStale},
		{longer(t, frameOf(t, oldStep, nil, many)), api.ErrStale},
		{longer(t, frameOf(t, base, nil, many)), api.ErrBase},
		{longer(t, frameOf(t, h, nil, many)), api.ErrForm},
		{longer(t, frameOf(t, step, held, many)), api.ErrForm},
		{frameOf(t, h, nil, many), api.ErrFull},
		{frameOf(t, step, held, many), api.ErrFull},
		{frameOf(t, step, list(ent(1025)), nil), api.ErrForm},
		{frameOf(t, with(func(h *api.Head) { h.Kind = api.Ack }), nil, nil), api.ErrForm},
		{frameOf(t, api.Head{Kind: api.Connect, Client: 3, Epoch: 1}, nil, nil), api.ErrForm},
		{longer(t, frameOf(t, api.Head{Kind: api.Reset, Client: 3, Epoch: 1}, nil, nil)), api.ErrForm},
		{frameOf(t, api.Head{Kind: api.Reset, Client: 3, Epoch: 2}, nil, nil), api.ErrEpoch},
		{frameOf(t, api.Head{Kind: api.Reset, Client: 2, Epoch: 1}, nil, nil), api.ErrNone},
	} {
		a, e := x.receive(y.p)
		if len(a) != 0 || e != y.want {
			t.Fatal(i, a, e, y.want)
		}
		// What is refused changes nothing.
		x.mustKnow(1024, 1024)
		x.mustHave(ent(1024, life(1)))
		x.mustHold(10)
	}
	x.mustReceive(frameOf(t, step, held, many[1:]), api.OK)
	// Off, whatever it is: it is off, but for another client's.
	x.mustLeave(api.OK)
	for _, g := range []api.Head{h, else1, stale} {
		x.mustReceive(frameOf(t, g, nil, many), api.ErrState)
		x.mustReceive(longer(t, frameOf(t, g, nil, many)), api.ErrState)
	}
	x.mustReceive(frameOf(t, base, nil, nil), api.ErrState)
	x.mustReceive(frameOf(t, alien, nil, nil), api.ErrNone)
	x.mustReceive(x.bare(api.Reset, 3, 1, 0), api.ErrState)
	x.mustReceive(x.bare(api.Connect, 3, 1, 0), api.ErrState)
	x.mustReceive(x.bare(api.Ack, 3, 1, 11), api.ErrState)
}

// Before its first Connect a client is off, too.
func TestReceiveOfOneThatNeverConnected(t *testing.T) {
	x := mustNew(t, 3, 10, 3)
	for _, kind := range []byte{api.Full, api.Ack, api.Connect, api.Reset} {
		x.mustReceive(x.bare(kind, 3, 1, 0), api.ErrState)
		x.mustReceive(x.bare(kind, 2, 1, 0), api.ErrNone)
	}
}

func TestReceiveOfOtherClients(t *testing.T) {
	x := on(t, 10, 3)
	for client := range byte(16) {
		if client == 3 {
			continue
		}
		for _, kind := range []byte{api.Full, api.Ack, api.Connect, api.Reset} {
			x.mustReceive(x.bare(kind, client, 1, 0), api.ErrNone)
		}
	}
	if !x.c.On() {
		t.Fatal("another client's Reset is taken")
	}
}

func TestReceiveOfOtherEpochs(t *testing.T) {
	x := on(t, 10, 3)
	x.mustConnect()
	x.mustConnect()
	for _, epoch := range []uint32{1, 2, 4, top} {
		for _, kind := range []byte{api.Full, api.Ack, api.Connect, api.Reset} {
			x.mustReceive(x.bare(kind, 3, epoch, 0), api.ErrEpoch)
		}
	}
	x.mustReceive(x.bare(api.Full, 3, 3, 0), api.OK)
}

func TestReset(t *testing.T) {
	x := on(t, 10, 3)
	x.mustTake(5, ent(7000, life(1)), ent(8000))
	x.mustTake(6, ent(2000), ent(7000, life(1)), ent(8000))
	reset := x.bare(api.Reset, 3, 1, 0)
	x.mustReceive(longer(t, reset), api.ErrForm)
	x.mustKnow(2000, 1026, 7000, 1024, 8000, 1025)
	x.mustReceive(reset, api.OK)
	if tick, ok := x.c.Taken(); x.c.On() || x.c.Epoch() != 1 || tick != 0 || ok || len(x.c.Read()) != 0 {
		t.Fatal("it is there still")
	}
	x.mustKnow()
	x.mustHave()
	x.mustHold()
	x.mustReceive(reset, api.ErrState)
	x.mustLeave(api.ErrState)
	x.mustConnect()
	x.mustReceive(reset, api.ErrEpoch)
	x.mustTake(1, ent(9000), ent(9001), ent(9002))
	x.mustKnow(9000, 2049, 9001, 2048, 9002, 2050)
	// Before anything was taken, too.
	x.mustConnect()
	x.mustReceive(x.bare(api.Reset, 3, 3, 0), api.OK)
}

func TestTicksRise(t *testing.T) {
	for _, first := range []uint32{0, 1, 7, 1 << 31, top - 1} {
		x := on(t, 10, 5)
		x.mustTake(first, ent(1024))
		for _, old := range []uint32{0, first / 2, first} {
			x.mustReceive(x.full(old, ent(1025)), api.ErrStale)
		}
		x.mustReceive(x.step(first+1, first, list(ent(1024)), nil), api.OK)
		x.mustReceive(x.step(first+1, first, list(ent(1024)), nil), api.ErrStale)
		x.mustReceive(x.full(first, ent(1024)), api.ErrStale)
		if first < top-1 {
			x.mustTake(top, ent(1026))
			x.mustHold(first, first+1, top)
		}
		x.mustReceive(x.full(top), api.ErrStale)
	}
}

// A Step is behind any snapshot that is held, not just the last.
func TestStepBehindWhatIsHeld(t *testing.T) {
	x := on(t, 10, 3)
	a, b, c := list(ent(1024, life(1))), list(ent(1024, life(2)), ent(1025)), list(ent(1025, tag(1, 1, 1)))
	x.mustTake(2, a...)
	x.mustTake(4, b...)
	x.mustTake(6, c...)
	x.mustHold(2, 4, 6)
	x.mustReceive(x.step(7, 1, a, a), api.ErrBase)
	x.mustReceive(x.step(7, 3, a, a), api.ErrBase)
	x.mustReceive(x.step(8, 7, a, a), api.ErrBase)
	x.mustReceive(x.step(7, 2, a, b), api.OK)
	x.mustHold(4, 6, 7)
	// The least one has gone.
	x.mustReceive(x.step(8, 2, a, b), api.ErrBase)
	x.mustReceive(x.step(8, 4, b, a), api.OK)
	x.mustReceive(x.step(9, 7, b, b), api.OK)
	x.mustReceive(x.step(10, 7, b, c), api.OK)
	x.mustHold(8, 9, 10)
	x.mustKnow(1025, 2049)
	// What is the Step of another snapshot than the one that is held is none.
	x.mustReceive(x.step(11, 8, b, a), api.ErrForm)
	x.mustReceive(x.step(11, 8, a, b), api.OK)
}

// Tick 0 is a tick like any other.
func TestStepBehindTickZero(t *testing.T) {
	x := on(t, 10, 2)
	x.mustReceive(x.step(1, 0, nil, nil), api.ErrBase)
	x.mustTake(0, ent(1024))
	if tick, ok := x.c.Taken(); tick != 0 || !ok {
		t.Fatal(tick, ok)
	}
	x.mustHold(0)
	x.mustReceive(x.step(1, 0, list(ent(1024)), nil), api.OK)
}

func TestKOfOneAndOfTheGreatest(t *testing.T) {
	for _, k := range []int{1, 2, 63, 64} {
		x := on(t, 10, k)
		var shots []shot
		for tick := range uint32(130) {
			now := list(ent(1024, life(int32(tick))))
			x.mustTake(tick, now...)
			shots = append(shots, shot{tick, now})
			if n := len(x.c.Held()); n != min(k, int(tick)+1) {
				t.Fatal(k, tick, n)
			}
		}
		gone, least := shots[129-k], shots[130-k]
		x.mustReceive(x.step(130, gone.tick, gone.now, nil), api.ErrBase)
		x.mustReceive(x.step(130, least.tick, least.now, nil), api.OK)
		x.mustReceive(x.step(131, least.tick, least.now, nil), api.ErrBase)
	}
}

func TestFull(t *testing.T) {
	for _, n := range []int{1, 2, 5, 1024} {
		x := on(t, n, 2)
		x.mustReceive(x.full(1, crowd(5000, n+1)...), api.ErrFull)
		x.mustKnow()
		x.mustTake(1, crowd(5000, n)...)
		was := crowd(5000, n)
		more := crowd(5000, n+1)
		x.mustReceive(x.step(2, 1, was, more), api.ErrFull)
		x.mustReceive(x.full(2, more...), api.ErrFull)
		x.mustHold(1)
		// As many others have room, since those whom it knows go first.
		others := crowd(50000, n)
		x.mustReceive(x.step(2, 1, was, others), api.OK)
		x.mustReceive(x.full(3, crowd(50001, n+1)...), api.ErrFull)
		x.mustReceive(x.full(3, crowd(50001, n)...), api.OK)
		if l := x.c.World(); len(l) != n {
			t.Fatal(len(l))
		}
	}
	// As many as a frame has room for.
	x := on(t, 1024, 2)
	x.mustReceive(x.full(1, crowd(1024, 3200)...), api.ErrFull)
}

func TestFullOfNobody(t *testing.T) {
	x := on(t, 10, 3)
	x.mustTake(1)
	x.mustHold(1)
	if tick, ok := x.c.Taken(); tick != 1 || !ok || len(x.c.Read()) != 0 {
		t.Fatal(tick, ok, x.c.Read())
	}
	some := list(ent(1024, every()...), ent(1025))
	x.mustReceive(x.step(2, 1, nil, some), api.OK)
	x.mustTake(3)
	x.mustKnow()
	x.mustHave()
	x.mustReceive(x.step(4, 3, nil, nil), api.OK)
	x.mustReceive(x.step(5, 2, some, some), api.OK)
	x.mustKnow(1024, 2049, 1025, 2048)
}

// A client whose slots have had all their generations refuses what it can't number, and stays what it is.
func TestSlotsUsedUp(t *testing.T) {
	const last = api.MaxGen * api.MaxSlots
	c, _ := guest.New(3, 2, 2)
	guest.Age(c, 2, api.MaxGen-1)
	c.Connect()
	tick := uint32(0)
	take := func(now ...api.Ent) api.Errno {
		tick++
		was := c.Map()
		p, e := c.Receive(frameOf(t, api.Head{Kind: api.Full, Client: 3, Epoch: 1, Tick: tick}, nil, now))
		if e != api.OK && (len(p) != 0 || !slices.Equal(c.Map(), was)) {
			t.Fatal("what is refused changes something", p, c.Map())
		}
		if e == api.OK && !snap.Same(c.Read(), now) {
			t.Fatal(c.Read(), now)
		}
		return e
	}
	mustMap := func(want ...guest.Link) {
		t.Helper()
		if l := c.Map(); !slices.Equal(l, want) {
			t.Fatal(l, want)
		}
	}
	if e := take(ent(5000), ent(5001)); e != api.OK {
		t.Fatal(e)
	}
	if e := take(ent(5001), ent(5002)); e != api.OK {
		t.Fatal(e)
	}
	mustMap(guest.Link{Net: 5001, Local: last - 1024 + 1}, guest.Link{Net: 5002, Local: last})
	// 5002 has the last number of its slot: when it goes nobody comes into its place; 5001's slot has one more.
	if e := take(ent(5001), ent(5003)); e != api.ErrFull {
		t.Fatal(e)
	}
	if e := take(ent(5003), ent(5004)); e != api.ErrFull {
		t.Fatal(e)
	}
	if e := take(ent(5002), ent(5003)); e != api.OK {
		t.Fatal(e)
	}
	mustMap(guest.Link{Net: 5002, Local: last}, guest.Link{Net: 5003, Local: last + 1})
	if e := take(ent(5003)); e != api.OK {
		t.Fatal(e)
	}
	if e := take(ent(5003), ent(5004)); e != api.ErrFull {
		t.Fatal(e)
	}
	if e := take(ent(5004)); e != api.ErrFull {
		t.Fatal(e)
	}
	if e := take(ent(5003, life(1))); e != api.OK {
		t.Fatal(e)
	}
	if e := take(); e != api.OK {
		t.Fatal(e)
	}
	if e := take(ent(5005)); e != api.ErrFull {
		t.Fatal(e)
	}
}

// How a snapshot is taken, P23.3.

func TestWhoStaysGoesAndComes(t *testing.T) {
	x := on(t, 10, 3)
	x.mustTake(1, ent(2000, life(1)), ent(2001, life(2)), ent(2002, life(3)), ent(2003, life(4)))
	x.mustKnow(2000, 1024, 2001, 1025, 2002, 1026, 2003, 1027)
	// 2000 and 2002 go, in this order; 2001 and 2003 stay; 1999, 2004 and 3000 come.
	x.mustTake(2, ent(1999, life(5)), ent(2001, life(2)), ent(2003, life(9)), ent(2004), ent(3000, tag(1, 1, 1)))
	x.mustKnow(1999, 2050, 2001, 1025, 2003, 1027, 2004, 2048, 3000, 1028)
	x.mustHave(ent(2048), ent(1025, life(2)), ent(2050, life(5)), ent(1027, life(9)), ent(1028, tag(1, 1, 1)))
	// Who goes and comes back is another one.
	x.mustTake(3, ent(2000, life(1)), ent(2001, life(2)))
	x.mustKnow(2000, 2052, 2001, 1025)
	// A number of the server's that is used again is another entity, too.
	x.mustTake(4, ent(2001, life(2)), ent(3024, life(1)))
	x.mustKnow(2001, 1025, 3024, 3076)
}

// By rising net IDs they go, whatever their own numbers are.
func TestWhoGoesGoesByNetIDs(t *testing.T) {
	x := on(t, 10, 3)
	x.mustTake(1, ent(9000))
	x.mustTake(2, ent(8000), ent(9000))
	x.mustTake(3, ent(7000), ent(8000), ent(9000))
	x.mustKnow(7000, 1026, 8000, 1025, 9000, 1024)
	x.mustTake(4)
	// Freed were 2, 1, 0; they come as 0, 1, 2.
	x.mustTake(5, ent(1024), ent(1025), ent(1026))
	x.mustKnow(1024, 2048, 1025, 2049, 1026, 2050)
}

func TestKindsRemovedAddedAndSet(t *testing.T) {
	x := on(t, 10, 3)
	was := list(ent(5000, pos(1, 1), life(5), body(1, 1, 1)))
	now := list(ent(5000, vel(2, 2), life(6), body(1, 1, 1), tag(1, 1, 1)))
	x.mustTake(1, was...)
	x.mustReceive(x.step(2, 1, was, now), api.OK)
	x.mustHave(ent(1024, vel(2, 2), life(6), body(1, 1, 1), tag(1, 1, 1)))
	x.mustTake(3, was...)
	x.mustHave(ent(1024, pos(1, 1), life(5), body(1, 1, 1)))
	x.mustTake(4, ent(5000, every()...))
	x.mustHave(ent(1024, every()...))
	x.mustTake(5, ent(5000, other()...))
	x.mustHave(ent(1024, other()...))
	x.mustTake(6, ent(5000))
	x.mustHave(ent(1024))
	x.mustTake(7, ent(5000, every()...))
	x.mustKnow(5000, 1024)
}

// From each make to each other one.
func TestMakes(t *testing.T) {
	of := func(mask int, l []api.Comp) []api.Comp {
		var out []api.Comp
		for kind := range 5 {
			if mask>>kind&1 == 1 {
				out = append(out, l[kind])
			}
		}
		return out
	}
	x := on(t, 4, 1)
	tick := uint32(0)
	for a := range 32 {
		for b := range 32 {
			for _, l := range [][]api.Comp{every(), other()} {
				tick += 2
				x.mustTake(tick, ent(3000, of(a, every())...), ent(4000, tag(1, 1, 1)))
				x.mustTake(tick+1, ent(3000, of(b, l)...), ent(4000, tag(1, 1, 1)))
				x.mustKnow(3000, 1024, 4000, 1025)
			}
		}
	}
}

// The others, P23.4.

func TestMapWorldRead(t *testing.T) {
	x := on(t, 10, 3)
	x.mustTake(1, ent(9000, life(1)), ent(9001, life(2)))
	x.mustTake(2, ent(1024, life(3)), ent(9001, life(2)), ent(4294967295, life(4)))
	// World by slots, Map and Read by net IDs.
	x.mustHave(ent(2048, life(3)), ent(1025, life(2)), ent(1026, life(4)))
	x.mustKnow(1024, 2048, 9001, 1025, 4294967295, 1026)
	if l := x.c.Read(); !snap.Same(l, list(ent(1024, life(3)), ent(9001, life(2)), ent(4294967295, life(4)))) {
		t.Fatal(l)
	}
	for _, net := range []api.ID{0, 1, 1023, 1025, 2048, 9000, 9002, 4294967294} {
		if id, ok := x.c.Local(net); id != 0 || ok {
			t.Fatal(net, id, ok)
		}
	}
	if id, ok := x.c.Local(4294967295); id != 1026 || !ok {
		t.Fatal(id, ok)
	}
}

func TestNilClient(t *testing.T) {
	var c *guest.Client
	for _, call := range []func() ([]byte, api.Errno){c.Connect, c.Again, c.Leave} {
		if p, e := call(); len(p) != 0 || e != api.ErrNone {
			t.Fatal(p, e)
		}
	}
	full := frameOf(t, api.Head{Kind: api.Full, Epoch: 1}, nil, nil)
	for _, p := range [][]byte{nil, {1, 2, 3, 4}, full, spoilt(full), make([]byte, longest+1)} {
		if q, e := c.Receive(p); len(q) != 0 || e != api.ErrNone {
			t.Fatal(q, e)
		}
	}
	tick, taken := c.Taken()
	id, known := c.Local(1024)
	if c.On() || c.Epoch() != 0 || tick != 0 || taken || id != 0 || known {
		t.Fatal("a nil client has something")
	}
	if len(c.Held()) != 0 || len(c.Map()) != 0 || len(c.World()) != 0 || len(c.Read()) != 0 {
		t.Fatal("a nil client has something")
	}
}

// Memory.

// grown has its spare room filled by what tells it.
func grown[T any](l []T, by T) []T {
	n := len(l)
	return append(slices.Clone(l), by, by, by)[:n]
}

// spoil writes over all of a list, spare room too.
func spoil[T any](l []T, by T) {
	l = l[:cap(l)]
	for i := range l {
		l[i] = by
	}
}

func spoilSnap(l []api.Ent) {
	for _, x := range l {
		spoil(x.Comps, comp(99, -9, -9, -9))
	}
	spoil(l, ent(99))
}

func TestHandedInIsNeitherChangedNorKept(t *testing.T) {
	x := on(t, 10, 3)
	was, now := list(ent(1024, every()...), ent(1025)), list(ent(1025, other()...), ent(1026, life(5)))
	for _, p := range [][]byte{x.full(1, was...), x.step(2, 1, was, now), x.step(3, 1, was, was), x.full(3), {1, 2, 3, 4}, x.step(4, 2, now, was), x.bare(api.Reset, 3, 1, 0)} {
		q := grown(p, 0x77)
		kept := slices.Clone(q[:cap(q)])
		x.receive(q)
		if !bytes.Equal(q[:cap(q)], kept) {
			t.Fatal("a frame that was handed in is another one")
		}
		spoil(q, 0xee)
		x.same()
	}
}

// answers is all that a client tells of itself, and that a caller may write over.
type answers struct {
	frame []byte
	held  []uint32
	links []guest.Link
	world []api.Ent
	read  []api.Ent
}

func answersOf(c *guest.Client, p []byte) answers {
	return answers{p, c.Held(), c.Map(), c.World(), c.Read()}
}

func (a answers) copied() answers {
	return answers{bytes.Clone(a.frame), slices.Clone(a.held), slices.Clone(a.links), snap.Copy(a.world), snap.Copy(a.read)}
}

func (a answers) is(b answers) bool {
	return bytes.Equal(a.frame, b.frame) && slices.Equal(a.held, b.held) && slices.Equal(a.links, b.links) && snap.Same(a.world, b.world) && snap.Same(a.read, b.read)
}

func (a answers) spoil() {
	spoil(a.frame, 0xee)
	spoil(a.held, 99)
	spoil(a.links, guest.Link{Net: 99, Local: 99})
	spoilSnap(a.world)
	spoilSnap(a.read)
}

func TestHandedOutIsNew(t *testing.T) {
	x := on(t, 10, 3)
	var got, want []answers
	note := func(p []byte) {
		a := answersOf(x.c, p)
		got, want = append(got, a), append(want, a.copied())
	}
	d := dice(4)
	for i := range uint32(12) {
		now := throwSnap(&d, x.c.Read())
		p, e := x.receive(x.full(i, now...))
		if e != api.OK {
			t.Fatal(e)
		}
		note(p)
		note(p[:0:0])
	}
	note(x.mustLeave(api.OK))
	note(x.mustConnect())
	note(x.mustAgain(api.OK))
	x.mustTake(1, ent(1024, every()...), ent(1025, other()...))
	note(nil)
	for i := range got {
		if !got[i].is(want[i]) {
			t.Fatal("later calls change what was answered", i)
		}
	}
	for i := range got {
		got[i].spoil()
		x.same()
		for k := i + 1; k < len(got); k++ {
			if !got[k].is(want[k]) {
				t.Fatal("two answers share memory", i, k)
			}
		}
	}
	// What was written over isn't what a Step stands behind.
	x.mustReceive(x.step(2, 1, list(ent(1024, every()...), ent(1025, other()...)), list(ent(1024, other()...))), api.OK)
}

// Long scripts.

func throwComps(d *dice) []api.Comp {
	var l []api.Comp
	for i := range 5 {
		if d.throw(2) == 0 {
			l = append(l, [][]api.Comp{every(), other()}[d.throw(2)][i])
		}
	}
	return l
}

// throwSnap is a snapshot near was, or far from it.
func throwSnap(d *dice, was []api.Ent) []api.Ent {
	if d.throw(3) > 0 && len(was) > 0 {
		l := snap.Copy(was)
		i := d.throw(len(l))
		l[i].Comps = throwComps(d)
		if d.throw(3) == 0 {
			l = slices.Delete(l, i, i+1)
		}
		return l
	}
	var l []api.Ent
	for id := range api.ID(12) {
		if d.throw(5) < 2 {
			l = append(l, ent(1024+5*id, throwComps(d)...))
		}
	}
	return l[:min(len(l), 10)]
}

// throwFrame is one that a client is sent, of now or of before, or one that nobody sends.
func throwFrame(t *testing.T, d *dice, x *pair) []byte {
	h := api.Head{Kind: api.Full, Client: 3, Epoch: max(x.m.epoch, 1), Tick: uint32(d.throw(3))}
	var was []api.Ent
	if n := len(x.m.held); n > 0 {
		last := x.m.held[d.throw(n)]
		was, h.Tick = last.now, x.m.held[n-1].tick+1+uint32(d.throw(3))/2
		if d.throw(6) == 0 {
			h.Tick -= min(h.Tick, uint32(1+d.throw(4)))
		}
		if d.throw(3) > 0 && last.tick < h.Tick {
			h.Kind, h.Base = api.Step, last.tick
		}
	}
	if h.Kind == api.Step && d.throw(8) == 0 && h.Base > 0 {
		h.Base--
	}
	now := throwSnap(d, was)
	switch d.throw(30) {
	case 0:
		h.Client = 4
	case 1:
		h.Epoch++
	case 2:
		h = api.Head{Kind: api.Reset, Client: 3, Epoch: h.Epoch}
		now = nil
	case 3:
		h = api.Head{Kind: byte(3 + d.throw(2)), Client: 3, Epoch: h.Epoch}
		now = nil
	case 4:
		now = crowd(2000, 13)
	}
	p := frameOf(t, h, was, now)
	switch d.throw(25) {
	case 0:
		return spoilt(p)
	case 1:
		return longer(t, p)
	}
	return p
}

func script(t *testing.T, seed int, count map[api.Errno]int) {
	d := dice(seed)
	x := mustNew(t, 3, []int{1, 4, 8, 12}[d.throw(4)], []int{1, 2, 3, 64}[d.throw(4)])
	for range 300 {
		if !x.m.on && d.throw(3) == 0 {
			x.mustConnect()
		}
		switch d.throw(60) {
		case 0:
			x.mustConnect()
		case 1:
			_, e := x.m.again()
			x.mustAgain(e)
		case 2:
			want := api.OK
			if !x.m.on {
				want = api.ErrState
			}
			x.mustLeave(want)
		default:
			_, e := x.receive(throwFrame(t, &d, x))
			count[e]++
		}
	}
}

func TestLongScripts(t *testing.T) {
	count := map[api.Errno]int{}
	for seed := range 200 {
		script(t, seed, count)
	}
	// The scripts are worth something only if each thing comes to pass in them.
	for _, e := range []api.Errno{api.OK, api.ErrForm, api.ErrSum, api.ErrFull, api.ErrNone, api.ErrStale, api.ErrBase, api.ErrEpoch, api.ErrState} {
		if count[e] < 100 {
			t.Fatal("hardly any of them", e, count)
		}
	}
}

// Who is in two snapshots that are taken one behind the other has one number; who comes has one that was never used.
func TestNumbersStayAndNeverComeBack(t *testing.T) {
	for seed := range 40 {
		d := dice(seed)
		x := on(t, 10, 2)
		used := map[api.ID]int{}
		for tick := range uint32(200) {
			before := map[api.ID]api.ID{}
			for _, l := range x.c.Map() {
				before[l.Net] = l.Local
			}
			if d.throw(30) == 0 {
				x.mustConnect()
				before = nil
			}
			x.mustTake(tick, throwSnap(&d, x.c.Read())...)
			for _, l := range x.c.Map() {
				was, ok := before[l.Net]
				switch {
				case ok && was != l.Local:
					t.Fatal("who stays has another number", l, was)
				case !ok && used[l.Local] > 0:
					t.Fatal("who comes has an old number", l)
				}
				used[l.Local]++
			}
		}
	}
}

// The same calls are answered the same, whatever other clients were told between.
func TestSameCallsSameAnswers(t *testing.T) {
	run := func() []answers {
		d := dice(3)
		x, noise := on(t, 8, 3), on(t, 8, 3)
		var l []answers
		for tick := range uint32(200) {
			p, _ := x.receive(throwFrame(t, &d, x))
			l = append(l, answersOf(x.c, p))
			noise.mustTake(tick, ent(1024))
		}
		return l
	}
	if !slices.EqualFunc(run(), run(), answers.is) {
		t.Fatal("two runs differ")
	}
}

// A frame is as long as it must be: nothing behind its head.
func TestAckBytes(t *testing.T) {
	x := mustNew(t, 2, 10, 3)
	x.mustConnect()
	p, e := x.receive(x.full(5))
	if e != api.OK || !bytes.Equal(p[:len(p)-4], []byte{0x92, 0x50, 0, 0, 0, 0}) {
		t.Fatalf("%x, %d", p, e)
	}
	if h, e := packet.Peek(p); e != api.OK || h.Tick != 5 {
		t.Fatal(h, e)
	}
}
