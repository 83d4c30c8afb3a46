package yard_test

import (
	"bytes"
	"math"
	"slices"
	"testing"

	"pinnace/api"
	"pinnace/guest"
	"pinnace/host"
	"pinnace/packet"
	"pinnace/snap"
	"pinnace/yard"
)

// all is the greatest region about the middle.
func all() api.Region { return api.Region{On: true, R: 8} }

func connect(client int) yard.Step { return yard.Step{Kind: yard.Connect, Client: client} }

func again(client int) yard.Step { return yard.Step{Kind: yard.Again, Client: client} }

func leave(client int) yard.Step { return yard.Step{Kind: yard.Leave, Client: client} }

func kick(client int) yard.Step { return yard.Step{Kind: yard.Kick, Client: client} }

func look(client int, r api.Region) yard.Step {
	return yard.Step{Kind: yard.Look, Client: client, Region: r}
}

func follow(client int, id api.ID, r int) yard.Step {
	return yard.Step{Kind: yard.Follow, Client: client, ID: id, R: r}
}

func tick() yard.Step { return yard.Step{Kind: yard.Tick} }

func calm(n int) yard.Step { return yard.Step{Kind: yard.Calm, I: n} }

func deliver(i int) yard.Step { return yard.Step{Kind: yard.Deliver, I: i} }

func doubled(i int) yard.Step { return yard.Step{Kind: yard.Copy, I: i} }

func drop(i int) yard.Step { return yard.Step{Kind: yard.Drop, I: i} }

func turn(i, at int, pattern uint32) yard.Step {
	return yard.Step{Kind: yard.Turn, I: i, At: at, Pattern: pattern}
}

func inject(client int, b []byte) yard.Step {
	return yard.Step{Kind: yard.Inject, Client: client, Bytes: b}
}

// seat lets a client have a session that sees all; nothing else may be under way.
func (p *pair) seat(clients ...int) {
	p.t.Helper()
	for _, client := range clients {
		p.do(connect(client), deliver(0), look(client, all()))
	}
}

// mustWay tells who the datagrams under way go to.
func (p *pair) mustWay(to ...int) {
	p.t.Helper()
	var l []int
	for i := range p.y.Bag().Len() {
		o, _ := p.y.Bag().Peek(i)
		l = append(l, o.To)
	}
	if !slices.Equal(l, to) {
		p.t.Fatalf("to %v are under way, not to %v", l, to)
	}
}

// head is that of the datagram at a place.
func (p *pair) head(i int) api.Head {
	p.t.Helper()
	o, e := p.y.Bag().Peek(i)
	if e != api.OK {
		p.t.Fatal(i, e)
	}
	h, e := packet.Peek(o.Frame)
	if e != api.OK {
		p.t.Fatal(o, e)
	}
	return h
}

// mustHave tells that a client has taken that tick, and how many it knows then.
func (p *pair) mustHave(client int, tick uint32, n int) {
	p.t.Helper()
	c := p.y.Guest(client)
	if got, ok := c.Taken(); !ok || got != tick || len(c.Read()) != n {
		p.t.Fatalf("%d has taken %d, %t, and knows %v", client, got, ok, c.Read())
	}
}

// mustHaveNothing tells that a client has taken nothing, and knows nobody.
func (p *pair) mustHaveNothing(client int) {
	p.t.Helper()
	c := p.y.Guest(client)
	if tick, ok := c.Taken(); ok || len(c.Read())+len(c.World())+len(c.Map())+len(c.Held()) > 0 {
		p.t.Fatal(client, tick, c.World())
	}
}

// mustSee tells that a client is where the server is, and reads what its region shows.
func (p *pair) mustSee(client, n int) {
	p.t.Helper()
	p.mustHave(client, p.y.Host().Tick(), n)
	if got, want := p.y.Guest(client).Read(), p.y.Host().Project(client); !snap.Same(got, want) {
		p.t.Fatal(client, got, want)
	}
}

func sealed(t *testing.T, h api.Head, now ...api.Ent) []byte {
	t.Helper()
	p, e := packet.Seal(h, nil, now)
	if e != api.OK {
		t.Fatal(h, e)
	}
	return p
}

// others are numbers of clients that there aren't.
func others() []int { return []int{math.MinInt, -257, -2, -1, 16, 17, 256, math.MaxInt} }

func TestExample(t *testing.T) {
	p := newPair(t, plain())
	p.do(connect(0), deliver(0), look(0, all()), spawn(pos(5, 5), vel(1, 2), life(9)), calm(2))
	p.mustSee(0, 1)
	want := []api.Ent{{ID: 1024, Comps: []api.Comp{pos(7, 9), vel(1, 2), life(7)}}}
	if got := p.y.Guest(0).Read(); !snap.Same(got, want) {
		t.Fatal(got)
	}
}

func TestKindsAreNumberedInOrder(t *testing.T) {
	kinds := []byte{yard.Order, yard.Tick, yard.Connect, yard.Again, yard.Leave, yard.Kick, yard.Look, yard.Follow,
		yard.Deliver, yard.Copy, yard.Drop, yard.Turn, yard.Inject, yard.Calm}
	for i, kind := range kinds {
		if int(kind) != i+1 {
			t.Fatal(i, kind)
		}
	}
}

// New, P25.1.

func TestNew(t *testing.T) {
	for _, n := range []int{1, 2, 1023, 1024} {
		for _, k := range []int{1, 64} {
			for _, bag := range []int{1, 2, 2047, 2048} {
				c := plain()
				c.Slots, c.Host.K, c.Bag, c.Host.Tick = n, k, bag, uint32(bag)
				y, e := yard.New(c)
				if e != api.OK || y.Host().Tick() != uint32(bag) || y.Bag().Len() != 0 || len(y.Results()) != 0 {
					t.Fatal(c, e)
				}
				for client := range 16 {
					if g := y.Guest(client); g == nil || g.On() || g.Epoch() != 0 {
						t.Fatal(c, client)
					}
				}
			}
		}
	}
}

// Each number of a yard has its ends, and beyond each of them there is no yard.
func TestNewOfWhatMayNotBe(t *testing.T) {
	for name, x := range map[string]struct {
		most int
		set  func(*yard.Config, int)
	}{
		"host slots":  {1024, func(c *yard.Config, n int) { c.Host.Slots = n }},
		"host gen":    {4194303, func(c *yard.Config, n int) { c.Host.Gen = n }},
		"host room":   {16, func(c *yard.Config, n int) { c.Host.Room = n }},
		"host k":      {64, func(c *yard.Config, n int) { c.Host.K = n }},
		"host budget": {4100, func(c *yard.Config, n int) { c.Host.Budget = n }},
		"slots":       {1024, func(c *yard.Config, n int) { c.Slots = n }},
		"bag":         {2048, func(c *yard.Config, n int) { c.Bag = n }},
	} {
		for _, n := range []int{1, x.most} {
			c := plain()
			x.set(&c, n)
			if y, e := yard.New(c); y == nil || e != api.OK {
				t.Fatal(name, n, e)
			}
		}
		for _, n := range []int{math.MinInt, -1, 0, x.most + 1, math.MaxInt} {
			c := plain()
			x.set(&c, n)
			if y, e := yard.New(c); y != nil || e != api.ErrArg {
				t.Fatal(name, n, y, e)
			}
		}
	}
}

// The server's error goes first, then the clients', then the bag's.
func TestNewAnswersTheFirstError(t *testing.T) {
	good := plain()
	for _, hosts := range []host.Config{good.Host, {}, {Slots: 1, Gen: 1, Room: 1, K: 65, Budget: 1}} {
		for _, slots := range []int{20, 0, 1025} {
			for _, bag := range []int{60, 0, 2049} {
				_, want := host.New(hosts)
				if want == api.OK {
					_, want = guest.New(15, slots, hosts.K)
				}
				if want == api.OK && bag != good.Bag {
					want = api.ErrArg
				}
				if y, e := yard.New(yard.Config{Host: hosts, Slots: slots, Bag: bag}); e != want || (y == nil) != (e != api.OK) {
					t.Fatal(hosts, slots, bag, y, e)
				}
			}
		}
	}
	if y, e := yard.New(yard.Config{}); y != nil || e != api.ErrArg {
		t.Fatal(y, e)
	}
}

// Clients hold as many snapshots as the server does.
func TestClientsHoldAsManyAsTheServer(t *testing.T) {
	for _, k := range []int{1, 2, 7, 64} {
		c := plain()
		c.Host.K = k
		p := newPair(t, c)
		p.seat(3)
		for range k + 2 {
			// Without Acks all that the client takes is a Full.
			p.do(tick(), deliver(0), drop(0))
		}
		if l := p.y.Guest(3).Held(); len(l) != k {
			t.Fatal(k, l)
		}
	}
}

// Each client is itself: what is for another one isn't for it.
func TestClientsHaveTheirOwnNumbers(t *testing.T) {
	p := newPair(t, plain())
	for client := range 16 {
		p.do(connect(client))
		if h := p.head(client); h != (api.Head{Kind: api.Connect, Client: byte(client), Epoch: 1}) {
			t.Fatal(client, h)
		}
	}
	p.mustWay(slices.Repeat([]int{-1}, 16)...)
	for range 16 {
		p.do(deliver(0))
	}
	if l := p.y.Host().Sessions(); len(l) != 16 {
		t.Fatal(l)
	}
	p.do(tick())
	p.mustWay(0, 1, 2, 3, 4, 5, 6, 7, 8, 9, 10, 11, 12, 13, 14, 15)
}

// Order and Tick.

func TestOrder(t *testing.T) {
	p := newPair(t, plain())
	p.do(spawn(pos(1, 2), life(9)), despawn(77))
	if len(p.y.Host().List()) != 0 {
		t.Fatal("orders wait for the tick")
	}
	for e, l := range map[api.Errno][]api.Order{
		api.ErrArg:   {{}, {Do: 6}, {Do: api.DoRemove, ID: 1024, Kind: 6}},
		api.ErrForm:  {{Do: api.DoSet}, {Do: api.DoSpawn, Comps: []api.Comp{life(1), life(1)}}},
		api.ErrRange: {{Do: api.DoSpawn, Comps: []api.Comp{life(4096)}}},
	} {
		for _, o := range l {
			p.refuse(e, yard.Step{Kind: yard.Order, Order: o})
		}
	}
	p.do(tick())
	if l := p.y.Results(); !slices.Equal(l, []api.Result{{ID: 1024}, {E: api.ErrDead}}) {
		t.Fatal(l)
	}
	for range api.MaxOrders {
		p.do(spawn())
	}
	p.refuse(api.ErrFull, spawn())
}

// Results behind a Tick, behind one that was refused, ahead of the first one, and behind a Calm.
func TestResults(t *testing.T) {
	c := plain()
	c.Host.Tick = math.MaxUint32 - 4
	p := newPair(t, c)
	must := func(want ...api.Result) {
		t.Helper()
		if l := p.y.Results(); !slices.Equal(l, want) {
			t.Fatal(l, want)
		}
	}
	must()
	p.do(spawn(life(9)), despawn(5))
	must()
	p.do(tick())
	must(api.Result{ID: 1024}, api.Result{E: api.ErrDead})
	p.do(spawn(), connect(1), deliver(0))
	must(api.Result{ID: 1024}, api.Result{E: api.ErrDead})
	// Only the last one's: no order waits for the second tick of a Calm.
	p.do(calm(2))
	must()
	p.do(spawn(), spawn(), calm(0))
	must()
	p.do(calm(1))
	must(api.Result{ID: 1026}, api.Result{ID: 1027})
	p.do(spawn())
	p.refuse(api.ErrEnd, tick())
	p.refuse(api.ErrEnd, calm(1))
	p.refuse(api.ErrEnd, calm(100))
	must(api.Result{ID: 1026}, api.Result{ID: 1027})
	// What waits still is refused as it would be anywhere.
	for range api.MaxOrders - 1 {
		p.do(spawn())
	}
	p.refuse(api.ErrFull, spawn())
}

func TestTickSendsByRisingClients(t *testing.T) {
	p := newPair(t, plain())
	p.seat(9, 0, 15, 4)
	p.do(connect(7), tick())
	// What was under way before is ahead.
	p.mustWay(-1, 0, 4, 9, 15)
	for i, client := range []byte{0, 4, 9, 15} {
		if h := p.head(i + 1); h != (api.Head{Kind: api.Full, Client: client, Epoch: 1, Tick: 1}) {
			t.Fatal(client, h)
		}
	}
	p.do(tick())
	p.mustWay(-1, 0, 4, 9, 15, 0, 4, 9, 15)
}

// Connect, Again, Leave.

func TestClientsByThemselves(t *testing.T) {
	for _, client := range []int{0, 1, 14, 15} {
		p := newPair(t, plain())
		p.refuse(api.ErrState, again(client))
		p.refuse(api.ErrState, leave(client))
		p.do(connect(client), again(client), connect(client))
		p.mustWay(-1, -1, -1)
		for i, epoch := range []uint32{1, 1, 2} {
			if h := p.head(i); h != (api.Head{Kind: api.Connect, Client: byte(client), Epoch: epoch}) {
				t.Fatal(client, i, h)
			}
		}
		// The last one comes first: the others are old.
		p.do(deliver(2))
		p.want(api.ErrStale, deliver(0))
		p.want(api.ErrStale, deliver(0))
		p.do(tick(), deliver(0), deliver(0))
		p.refuse(api.ErrState, again(client))
		p.do(leave(client))
		if h := p.head(0); h != (api.Head{Kind: api.Reset, Client: byte(client), Epoch: 2}) {
			t.Fatal(client, h)
		}
		p.mustHaveNothing(client)
		p.refuse(api.ErrState, leave(client))
		p.do(deliver(0))
		if l := p.y.Host().Sessions(); len(l) != 0 {
			t.Fatal(l)
		}
	}
}

func TestClientsThatThereArent(t *testing.T) {
	p := newPair(t, plain())
	p.seat(0, 15)
	p.do(spawn(pos(0, 0)), calm(2), tick(), connect(3))
	for _, client := range others() {
		for _, s := range []yard.Step{connect(client), again(client), leave(client), kick(client), look(client, all()), follow(client, 1024, 1)} {
			p.refuse(api.ErrArg, s)
		}
		if p.y.Guest(client) != nil {
			t.Fatal(client)
		}
	}
}

// Kick, Look, Follow.

func TestKick(t *testing.T) {
	for _, client := range []int{0, 15} {
		p := newPair(t, plain())
		p.refuse(api.ErrNone, kick(client))
		p.seat(client)
		p.do(spawn(pos(0, 0)), calm(1), kick(client))
		p.mustWay(client)
		if h := p.head(0); h != (api.Head{Kind: api.Reset, Client: byte(client), Epoch: 1}) {
			t.Fatal(h)
		}
		p.refuse(api.ErrNone, kick(client))
		p.mustHave(client, 1, 1)
		p.do(tick())
		p.mustWay(client)
		// Who is sent away says nothing.
		p.do(deliver(0))
		p.mustWay()
		p.mustHaveNothing(client)
		if p.y.Guest(client).On() {
			t.Fatal(client)
		}
	}
}

func TestLookAndFollow(t *testing.T) {
	p := newPair(t, plain())
	p.refuse(api.ErrNone, look(2, all()))
	p.refuse(api.ErrNone, follow(2, 1024, 1))
	p.seat(2)
	p.do(spawn(pos(0, 0), vel(0, 9000)), spawn(pos(100000, 0)), tick())
	if r := p.y.Host().Region(2); r != all() {
		t.Fatal(r)
	}
	for _, r := range []api.Region{{On: true, R: 9}, {R: -1}, {CX: 32}, {CY: -33}} {
		p.refuse(api.ErrArg, look(2, r))
		p.refuse(api.ErrArg, look(3, r))
	}
	p.refuse(api.ErrArg, follow(2, 1024, 9))
	p.refuse(api.ErrArg, follow(2, 5, -1))
	p.refuse(api.ErrDead, follow(2, 5, 8))
	p.do(follow(2, 1024, 3), tick())
	if r := p.y.Host().Region(2); r != (api.Region{On: true, CY: 1, R: 3}) {
		t.Fatal(r)
	}
	// Whatever a step has beside what its kind asks for isn't looked at.
	s := look(2, api.Region{On: true, CX: -7})
	s.ID, s.R, s.I, s.At, s.Pattern, s.Bytes, s.Order = 1025, 99, 99, 99, 99, []byte("x"), api.Order{Do: 99}
	p.do(s)
	if r := p.y.Host().Region(2); r != (api.Region{On: true, CX: -7}) {
		t.Fatal(r)
	}
}

// Deliver, Copy, Drop, Turn.

// three is a yard with datagrams to the clients 4, 5 and 6 under way.
func three(t *testing.T) *pair {
	t.Helper()
	p := newPair(t, plain())
	p.seat(4, 5, 6)
	p.do(spawn(pos(0, 0), vel(5, 6)), tick())
	p.mustWay(4, 5, 6)
	return p
}

func TestPlacesOfTheBag(t *testing.T) {
	for i, want := range [][][]int{
		// The Ack of whom it came to is behind all others.
		{{5, 6, -1}, {4, 5, 6, 4}, {5, 6}, {4, 5, 6}},
		{{4, 6, -1}, {4, 5, 6, 5}, {4, 6}, {4, 5, 6}},
		{{4, 5, -1}, {4, 5, 6, 6}, {4, 5}, {4, 5, 6}},
	} {
		for j, s := range []yard.Step{deliver(i), doubled(i), drop(i), turn(i, 0, 1)} {
			p := three(t)
			p.do(s)
			p.mustWay(want[j]...)
		}
	}
	p := three(t)
	for _, i := range []int{math.MinInt, -1, 3, 4, math.MaxInt} {
		for _, s := range []yard.Step{deliver(i), doubled(i), drop(i), turn(i, 0, 1)} {
			p.refuse(api.ErrNone, s)
		}
	}
	p.do(drop(2), drop(0), drop(0))
	for _, s := range []yard.Step{deliver(0), doubled(0), drop(0), turn(0, 0, 1)} {
		p.refuse(api.ErrNone, s)
	}
}

func TestDeliverToServer(t *testing.T) {
	p := newPair(t, plain())
	p.do(connect(1), connect(2), deliver(1), deliver(0))
	if l := p.y.Host().Sessions(); !slices.Equal(l, []int{1, 2}) {
		t.Fatal(l)
	}
	p.mustWay()
}

// What is refused where it comes to is under way no more, and changes nothing else.
func TestDeliverOfWhatIsRefused(t *testing.T) {
	p := three(t)
	p.do(doubled(0), deliver(0), deliver(3))
	was := stateOf(p.y)
	p.want(api.ErrStale, deliver(2))
	p.mustWay(5, 6)
	now := stateOf(p.y)
	now.bag = was.bag
	if !was.same(now) {
		t.Fatal(was, now)
	}
}

// Nobody is told what goes to nobody.
func TestDeliverToNobody(t *testing.T) {
	connects := sealed(t, api.Head{Kind: api.Connect, Client: 1, Epoch: 9})
	for _, to := range []int{math.MinInt, -2, 16, 17, 255, 256, math.MaxInt} {
		p := newPair(t, plain())
		p.seat(0)
		was := stateOf(p.y)
		p.y.Bag().Put(api.Out{To: to, Frame: connects})
		if e := p.y.Do(deliver(0)); e != api.OK || !was.same(stateOf(p.y)) {
			t.Fatal(to, e)
		}
		// A Calm comes along, too.
		p.y.Bag().Put(api.Out{To: to, Frame: connects})
		if e := p.y.Do(calm(1)); e != api.OK || p.y.Bag().Len() != 0 {
			t.Fatal(to, e)
		}
		p.m.do(calm(1))
		p.mustAgree()
	}
}

func TestCopyInFullBag(t *testing.T) {
	c := plain()
	c.Bag = 2
	p := newPair(t, c)
	p.do(connect(0), doubled(0))
	p.refuse(api.ErrFull, doubled(0))
	p.refuse(api.ErrFull, doubled(1))
	// Where there is none, that goes first.
	p.refuse(api.ErrNone, doubled(2))
	p.do(deliver(1))
	p.want(api.ErrStale, deliver(0))
}

func TestTurn(t *testing.T) {
	p := three(t)
	o, _ := p.y.Bag().Peek(1)
	p.do(doubled(1), turn(1, 9, 77))
	spoilt, _ := p.y.Bag().Peek(1)
	want := bytes.Clone(o.Frame)
	for _, k := range []int{0, 2, 3, 6} {
		want[(9+k)/8] ^= 1 << ((9 + k) % 8)
	}
	if !bytes.Equal(spoilt.Frame, want) {
		t.Fatal(spoilt, o)
	}
	// What is turned twice by the same is itself again.
	p.do(turn(1, 9, 77))
	if again, _ := p.y.Bag().Peek(1); !bytes.Equal(again.Frame, o.Frame) {
		t.Fatal(again, o)
	}
	// Bits that it hasn't aren't looked at.
	p.do(turn(1, math.MinInt, math.MaxUint32), turn(1, math.MaxInt, math.MaxUint32), turn(1, 8*len(o.Frame), math.MaxUint32), turn(1, -32, math.MaxUint32), turn(1, 0, 0))
	if again, _ := p.y.Bag().Peek(1); !bytes.Equal(again.Frame, o.Frame) {
		t.Fatal(again, o)
	}
	for at := range 8 * len(o.Frame) {
		p.do(doubled(1), turn(4, at, 0x80000001))
		p.want(api.ErrSum, deliver(4))
	}
	p.do(deliver(1))
	p.want(api.ErrStale, deliver(2))
}

// Inject.

func TestInjectIntoServer(t *testing.T) {
	p := newPair(t, plain())
	p.do(inject(-1, sealed(t, api.Head{Kind: api.Connect, Client: 15, Epoch: 4})))
	if l := p.y.Host().Sessions(); !slices.Equal(l, []int{15}) || p.y.Host().Epoch(15) != 4 {
		t.Fatal(l)
	}
	p.mustWay()
	for e, b := range map[api.Errno][]byte{
		api.ErrStale: sealed(t, api.Head{Kind: api.Connect, Client: 15, Epoch: 4}),
		api.ErrEpoch: sealed(t, api.Head{Kind: api.Ack, Client: 15, Epoch: 3, Tick: 1}),
		api.ErrNone:  sealed(t, api.Head{Kind: api.Reset, Client: 14, Epoch: 4}),
		api.ErrForm:  sealed(t, api.Head{Kind: api.Full, Client: 15, Epoch: 4, Tick: 1}),
		api.ErrShort: {1, 2, 3},
		api.ErrSum:   {1, 2, 3, 4, 5, 6, 7},
		api.ErrLong:  make([]byte, 5000),
	} {
		p.refuse(e, inject(-1, b))
	}
	p.refuse(api.ErrShort, inject(-1, nil))
}

func TestInjectIntoClient(t *testing.T) {
	for _, client := range []int{0, 15} {
		p := newPair(t, plain())
		h := api.Head{Kind: api.Full, Client: byte(client), Epoch: 1, Tick: 5}
		b := sealed(t, h, api.Ent{ID: 2048, Comps: []api.Comp{life(7)}})
		p.refuse(api.ErrState, inject(client, b))
		p.refuse(api.ErrNone, inject(client^1, b))
		p.do(connect(client), drop(0), inject(client, b))
		// It answers to the server.
		p.mustWay(-1)
		if h := p.head(0); h != (api.Head{Kind: api.Ack, Client: byte(client), Epoch: 1, Tick: 5}) {
			t.Fatal(h)
		}
		p.mustHave(client, 5, 1)
		for e, b := range map[api.Errno][]byte{
			api.ErrStale: b,
			api.ErrEpoch: sealed(t, api.Head{Kind: api.Full, Client: byte(client), Epoch: 2, Tick: 6}),
			api.ErrForm:  sealed(t, api.Head{Kind: api.Connect, Client: byte(client), Epoch: 1}),
			api.ErrBase:  sealed(t, api.Head{Kind: api.Step, Client: byte(client), Epoch: 1, Tick: 6, Base: 4}),
			api.ErrShort: {1, 2, 3},
			api.ErrSum:   {1, 2, 3, 4, 5, 6, 7},
			api.ErrLong:  make([]byte, 5000),
		} {
			p.refuse(e, inject(client, b))
		}
		p.do(inject(client, sealed(t, api.Head{Kind: api.Reset, Client: byte(client), Epoch: 1})))
		p.mustWay(-1)
		p.mustHaveNothing(client)
	}
}

func TestInjectIntoNobody(t *testing.T) {
	p := three(t)
	for _, client := range []int{math.MinInt, -17, -2, 16, 17, 255, 256, math.MaxInt} {
		for _, b := range [][]byte{nil, {1, 2, 3}, sealed(t, api.Head{Kind: api.Connect, Client: 1, Epoch: 9})} {
			p.refuse(api.ErrArg, inject(client, b))
		}
	}
}

// Calm.

func TestCalmOfHowManyTicks(t *testing.T) {
	for _, n := range []int{0, 1, 2, 99, 100} {
		p := newPair(t, plain())
		p.seat(0, 8, 15)
		p.do(spawn(pos(0, 0), vel(7, 8)), calm(n))
		if tick := p.y.Host().Tick(); tick != uint32(n) {
			t.Fatal(n, tick)
		}
		p.mustWay()
		for _, client := range []int{0, 8, 15} {
			if n > 0 {
				p.mustSee(client, 1)
			} else {
				p.mustHaveNothing(client)
			}
		}
	}
	p := three(t)
	for _, n := range []int{math.MinInt, -101, -1, 101, 102, math.MaxInt} {
		p.refuse(api.ErrArg, calm(n))
	}
	// Without a tick nothing is delivered.
	p.refuse(api.OK, calm(0))
}

// A wrong number goes ahead of there being no further tick.
func TestCalmAtTheLastTick(t *testing.T) {
	c := plain()
	c.Host.Tick = math.MaxUint32 - 3
	p := newPair(t, c)
	p.seat(1)
	p.do(spawn(pos(0, 0), vel(7, 8)))
	p.want(api.ErrEnd, calm(100))
	// The three ticks that there were are done, and what was sent in them came.
	p.mustSee(1, 1)
	p.mustWay()
	if tick := p.y.Host().Tick(); tick != math.MaxUint32 {
		t.Fatal(tick)
	}
	// What is under way when a tick is refused stays so.
	p.do(connect(5), calm(0))
	p.refuse(api.ErrEnd, calm(1))
	p.refuse(api.ErrEnd, tick())
	p.refuse(api.ErrArg, calm(101))
	p.refuse(api.ErrArg, calm(-1))
	p.mustWay(-1)

	c.Host.Tick = math.MaxUint32 - 2
	p = newPair(t, c)
	p.seat(1)
	p.do(calm(2))
	p.mustSee(1, 0)
}

// In a Calm what was under way ahead of it comes first, and errors of what comes hinder nothing.
func TestCalmWithWhatWasUnderWay(t *testing.T) {
	p := three(t)
	p.do(doubled(0), doubled(0), turn(1, 3, 1), inject(4, sealed(t, api.Head{Kind: api.Reset, Client: 4, Epoch: 1})), connect(9), calm(1))
	p.mustWay()
	p.mustSee(5, 1)
	p.mustSee(6, 1)
	p.mustHaveNothing(4)
	// It connected behind the tick.
	p.mustHaveNothing(9)
	p.do(calm(1))
	p.mustSee(9, 0)
}

// A bag that is full.

func TestFullBagWhenTheServerSends(t *testing.T) {
	c := plain()
	c.Bag = 2
	p := newPair(t, c)
	p.seat(3, 1, 2)
	p.do(spawn(pos(0, 0)), tick())
	p.mustWay(1, 2)
	p.do(tick())
	p.mustWay(1, 2)
	if h := p.head(0); h.Tick != 1 {
		t.Fatal(h)
	}
	// The frame of a Kick, too, and the session has ended all the same.
	p.do(kick(3))
	p.mustWay(1, 2)
	if l := p.y.Host().Sessions(); !slices.Equal(l, []int{1, 2}) || !p.y.Guest(3).On() {
		t.Fatal(l)
	}
	p.do(drop(0), tick())
	p.mustWay(2, 1)
	if h := p.head(1); h.Tick != 3 {
		t.Fatal(h)
	}
}

func TestFullBagWhenClientsSend(t *testing.T) {
	c := plain()
	c.Bag = 1
	p := newPair(t, c)
	p.do(connect(0), connect(1), again(1), leave(0))
	p.mustWay(-1)
	if h := p.head(0); h.Kind != api.Connect || h.Client != 0 || !p.y.Guest(1).On() || p.y.Guest(0).On() {
		t.Fatal(h)
	}
	p.do(drop(0), again(1), deliver(0), look(1, all()), spawn(pos(0, 0)), tick())
	p.refuse(api.ErrFull, doubled(0))
	// There is room for the answer to what was taken out, but none for that to what is injected.
	o, _ := p.y.Bag().Peek(0)
	p.do(inject(1, o.Frame))
	p.mustWay(1)
	p.mustHave(1, 1, 1)
	p.want(api.ErrStale, deliver(0))
	p.do(tick(), deliver(0))
	p.mustWay(-1)
	if h := p.head(0); h != (api.Head{Kind: api.Ack, Client: 1, Epoch: 1, Tick: 2}) {
		t.Fatal(h)
	}
	p.do(deliver(0), calm(3))
	p.mustSee(1, 1)
}

// Datagrams that come late, doubled, out of order, of an earlier epoch, or spoilt.

func TestLate(t *testing.T) {
	p := newPair(t, plain())
	p.seat(2)
	p.do(spawn(pos(0, 0), vel(1, 1)), tick(), tick(), tick())
	p.do(deliver(2))
	p.mustHave(2, 3, 1)
	p.want(api.ErrStale, deliver(1))
	p.want(api.ErrStale, deliver(0))
	p.mustHave(2, 3, 1)
	// The Ack comes late, and is as good as ever.
	p.do(tick(), deliver(0))
	if tick, ok := p.y.Host().Base(2); !ok || tick != 3 {
		t.Fatal(tick, ok)
	}
	p.do(tick())
	if h := p.head(1); h != (api.Head{Kind: api.Step, Client: 2, Epoch: 1, Tick: 5, Base: 3}) {
		t.Fatal(h)
	}
	p.do(deliver(1))
	p.mustSee(2, 1)
	// An Ack of what isn't held any more is nothing; nor is one that is older than the last.
	p.want(api.ErrStale, deliver(0))
	for range 5 {
		p.do(tick())
	}
	p.want(api.ErrNone, deliver(0))
}

func TestDoubled(t *testing.T) {
	p := newPair(t, plain())
	p.do(connect(2), doubled(0), deliver(0))
	p.want(api.ErrStale, deliver(0))
	p.do(look(2, all()), spawn(pos(0, 0)), tick(), doubled(0), deliver(0))
	p.want(api.ErrStale, deliver(0))
	p.do(doubled(0), deliver(0))
	p.want(api.ErrStale, deliver(0))
	p.do(leave(2), doubled(0), deliver(0))
	p.want(api.ErrNone, deliver(0))
}

func TestEarlierEpoch(t *testing.T) {
	p := newPair(t, plain())
	p.seat(2)
	p.do(spawn(pos(0, 0), vel(1, 1)), tick(), doubled(0), deliver(1))
	p.mustWay(2, -1)
	// It connects again, ahead of what is under way.
	p.do(connect(2))
	p.mustHaveNothing(2)
	p.want(api.ErrEpoch, deliver(0))
	p.mustHaveNothing(2)
	p.do(deliver(1))
	p.want(api.ErrEpoch, deliver(0))
	p.do(tick())
	// A new session sees nothing, till it looks.
	p.do(deliver(0))
	p.mustHave(2, 2, 0)
	p.do(look(2, all()), calm(2))
	p.mustSee(2, 1)
	// The frame by which it left its first session, and the one by which it was sent away, do nothing to the next.
	p.do(leave(2), connect(2), doubled(1), deliver(1))
	p.want(api.ErrEpoch, deliver(0))
	p.want(api.ErrStale, deliver(0))
	p.do(kick(2), connect(2), deliver(1))
	p.want(api.ErrEpoch, deliver(0))
	if !p.y.Guest(2).On() || p.y.Guest(2).Epoch() != 4 || p.y.Host().Epoch(2) != 4 {
		t.Fatal(p.y.Guest(2).Epoch())
	}
}

// A client that leaves, or is sent away, connects again, and knows all again under other numbers of its own.
func TestComesAgain(t *testing.T) {
	for _, end := range []func(int) yard.Step{leave, kick} {
		p := newPair(t, plain())
		p.seat(2)
		p.do(spawn(pos(0, 0)), spawn(pos(9, 9)), calm(3))
		p.mustSee(2, 2)
		was := p.y.Guest(2).Map()
		p.do(end(2), deliver(0))
		p.mustHaveNothing(2)
		p.do(calm(2))
		p.mustHaveNothing(2)
		p.seat(2)
		p.do(calm(1))
		p.mustSee(2, 2)
		if now := p.y.Guest(2).Map(); was[0].Net != now[0].Net || was[0].Local == now[0].Local || p.y.Guest(2).Epoch() != 2 {
			t.Fatal(was, now)
		}
	}
}

// Room for a session isn't there before another one has ended.
func TestNoRoom(t *testing.T) {
	c := plain()
	c.Host.Room = 2
	p := newPair(t, c)
	p.seat(3, 4)
	p.do(connect(5))
	p.want(api.ErrFull, deliver(0))
	p.refuse(api.ErrNone, look(5, all()))
	p.do(kick(3), deliver(0), again(5), deliver(0), look(5, all()), calm(1))
	p.mustSee(5, 0)
}

// A client with fewer slots than it is told entities stays where it was, and comes along when there are fewer.
func TestFewSlots(t *testing.T) {
	c := plain()
	c.Slots = 2
	p := newPair(t, c)
	p.seat(2)
	p.do(spawn(pos(0, 0)), spawn(pos(1, 1)), calm(2))
	p.mustSee(2, 2)
	p.do(spawn(pos(2, 2)), tick())
	p.want(api.ErrFull, deliver(0))
	p.mustHave(2, 2, 2)
	p.mustWay()
	p.do(calm(9))
	p.mustHave(2, 2, 2)
	p.do(despawn(1025), calm(1))
	p.mustSee(2, 2)
	if h := p.y.Guest(2).Map(); h[1].Net != 1026 {
		t.Fatal(h)
	}
}

// What has no room in a frame isn't sent.
func TestSmallBudget(t *testing.T) {
	c := plain()
	c.Host.Budget = 40
	p := newPair(t, c)
	p.seat(2)
	p.do(spawn(pos(0, 0)), calm(2))
	p.mustSee(2, 1)
	for n := range 8 {
		p.do(spawn(pos(int32(n), 1), comp(api.Tag, 1, 2, 3)))
	}
	p.do(tick())
	p.mustWay()
	p.do(calm(3))
	p.mustHave(2, 2, 1)
	for n := range 8 {
		p.do(despawn(api.ID(1025 + n)))
	}
	p.do(calm(1))
	p.mustSee(2, 1)
}

// Wrong inputs, and nothing.

func TestKindThatIsNone(t *testing.T) {
	p := three(t)
	for kind := range 256 {
		if kind == 0 || kind > int(yard.Calm) {
			p.refuse(api.ErrArg, yard.Step{Kind: byte(kind)})
			p.refuse(api.ErrArg, yard.Step{Kind: byte(kind), Client: 99, I: 99, Bytes: []byte{1}})
		}
	}
}

func TestNilYard(t *testing.T) {
	var y *yard.Yard
	for kind := range 256 {
		for _, s := range []yard.Step{{}, {Client: -9, I: -9, R: 99}, {Client: 3, I: 1, Bytes: []byte{1}}} {
			s.Kind = byte(kind)
			if e := y.Do(s); e != api.ErrNone {
				t.Fatal(s, e)
			}
		}
	}
	if y.Host() != nil || y.Bag() != nil || len(y.Results()) != 0 {
		t.Fatal("nothing")
	}
	for _, client := range append(others(), 0, 7, 15) {
		if y.Guest(client) != nil {
			t.Fatal(client)
		}
	}
}

// No numbers make a step panic, or go on for ever.
func TestAnyNumbers(t *testing.T) {
	ends := []int{math.MinInt, math.MinInt32, -257, -1, 0, 1, 15, 16, 100, 256, math.MaxInt32, math.MaxUint32, math.MaxInt}
	d := dice(9)
	for seed := range 8 {
		c := plain()
		c.Bag = 1 + seed
		p := newPair(t, c)
		p.seat(0)
		for range 600 {
			end := func() int { return ends[d.throw(len(ends))] }
			s := yard.Step{Kind: byte(d.throw(17)), Client: end(), ID: api.ID(end()), R: end(), I: end(), At: end(), Pattern: uint32(end())}
			s.Region = api.Region{On: d.throw(2) == 0, CX: end(), CY: end(), R: end()}
			s.Order = api.Order{Do: byte(end()), ID: api.ID(end()), Kind: byte(end())}
			if d.throw(2) == 0 {
				s.Client = d.throw(2)
				s.Order.Comps = []api.Comp{{Kind: byte(d.throw(8)), F: [3]int32{int32(end()), int32(end()), int32(end())}}}
			}
			s.Bytes = make([]byte, d.throw(9))
			p.try(s)
		}
	}
}

// Memory.

func TestWhatIsHandedInIsNeitherChangedNorKept(t *testing.T) {
	p := newPair(t, plain())
	p.seat(2)
	room := make([]api.Comp, 2, 5)
	room[0], room[1] = pos(3, 4), life(9)
	for i := 2; i < 5; i++ {
		room[:5][i] = comp(9, 9, 9, 9)
	}
	was := slices.Clone(room[:5])
	p.do(yard.Step{Kind: yard.Order, Order: api.Order{Do: api.DoSpawn, Comps: room}})
	if !slices.Equal(was, room[:5]) {
		t.Fatal(room[:5])
	}
	clear(room[:5])
	p.do(tick())
	if l := p.y.Host().List(); len(l) != 1 || !slices.Equal(l[0].Comps, []api.Comp{pos(3, 4), life(8)}) {
		t.Fatal(l)
	}

	h := api.Head{Kind: api.Full, Client: 2, Epoch: 1, Tick: 70}
	b := sealed(t, h, api.Ent{ID: 5000, Comps: []api.Comp{life(7)}})
	frame := append(slices.Clone(b), "spare"...)[:len(b)]
	if e := p.y.Do(inject(2, frame)); e != api.OK {
		t.Fatal(e)
	}
	if spare := frame[:len(b)+5]; !bytes.Equal(spare, append(slices.Clone(b), "spare"...)) {
		t.Fatal(spare)
	}
	clear(frame[:len(b)+5])
	if l := p.y.Guest(2).Read(); len(l) != 1 || l[0].ID != 5000 || !slices.Equal(l[0].Comps, []api.Comp{life(7)}) {
		t.Fatal(l)
	}
}

func TestWhatIsHandedOutIsNew(t *testing.T) {
	p := newPair(t, plain())
	p.do(spawn(), despawn(7), spawn(), tick())
	want := []api.Result{{ID: 1024}, {E: api.ErrDead}, {ID: 1025}}
	first, second := p.y.Results(), p.y.Results()
	clear(first[:cap(first)])
	if !slices.Equal(second, want) || !slices.Equal(p.y.Results(), want) {
		t.Fatal(second, p.y.Results())
	}
	p.do(spawn(), spawn(), spawn(), spawn(), tick())
	if !slices.Equal(second, want) {
		t.Fatal(second)
	}
	clear(second[:cap(second)])
	p.mustAgree()

	// The objects are themselves, each time.
	if p.y.Host() != p.y.Host() || p.y.Bag() != p.y.Bag() || p.y.Guest(3) != p.y.Guest(3) || p.y.Guest(3) == p.y.Guest(4) {
		t.Fatal("others")
	}
}

// What is done in one yard isn't done in another.
func TestYardsAreTheirOwn(t *testing.T) {
	p, q := newPair(t, plain()), newPair(t, plain())
	p.seat(2)
	p.do(spawn(pos(0, 0)), tick(), connect(4))
	q.mustAgree()
	q.mustWay()
	q.do(connect(2), tick())
	p.mustWay(2, -1)
	p.mustAgree()
}
