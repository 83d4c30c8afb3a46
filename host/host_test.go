package host_test

import (
	"bytes"
	"math"
	"slices"
	"testing"

	"pinnace/api"
	"pinnace/frame"
	"pinnace/guest"
	"pinnace/host"
	"pinnace/packet"
	"pinnace/snap"
	"pinnace/view"
)

const (
	top     = math.MaxUint32
	longest = api.MaxBody + 4
	// cell is how wide a cell is.
	cell = 16384
)

// all is the greatest region about the middle, and all of the world's middle is in it.
func all() api.Region { return api.Region{On: true, R: 8} }

// spoilt is a frame of which one bit is turned.
func spoilt(p []byte) []byte {
	q := bytes.Clone(p)
	q[len(q)/2] ^= 4
	return q
}

// longer is the frame of the same body with a byte more.
func longer(t *testing.T, p []byte) []byte {
	t.Helper()
	q, e := frame.Seal(append(bytes.Clone(p[:len(p)-4]), 0))
	if e != api.OK {
		t.Fatal(e)
	}
	return q
}

func TestExample(t *testing.T) {
	c := plain()
	c.Room = 1
	x := mustNew(t, c)
	x.mustReceive(connectOf(t, 0, 1), api.OK)
	x.mustReceive(connectOf(t, 1, 1), api.ErrFull)
	x.mustReceive(connectOf(t, 0, 1), api.ErrStale)
	x.mustLook(0, view.Around(0, 0, 1), api.OK)
	out := x.mustStep(spawn(pos(1, 2), life(7)))
	mustSendTo(t, out, 0)
	mustTell(t, out[0].Frame, api.Head{Kind: api.Full, Epoch: 1, Tick: 1}, nil, list(ent(1024, pos(1, 2), life(6))))
}

// New, P22.1.

func TestNewOfWhatMayBe(t *testing.T) {
	for _, n := range []int{1, 2, api.MaxSlots} {
		for _, gen := range []int{1, api.MaxGen} {
			for _, tick := range []uint32{0, 1, top - 1, top} {
				for _, room := range []int{1, 2, 15, 16} {
					for _, k := range []int{1, api.MaxRing} {
						for _, budget := range []int{1, 50, longest} {
							c := host.Config{Slots: n, Gen: gen, Tick: tick, Room: room, K: k, Budget: budget}
							s, e := host.New(c)
							if e != api.OK || s.Tick() != tick || len(s.List()) != 0 || len(s.Sessions()) != 0 {
								t.Fatal(c, e)
							}
						}
					}
				}
			}
		}
	}
}

func TestNewOfWhatMayNotBe(t *testing.T) {
	good := plain()
	for name, spoil := range map[string]func(*host.Config, int){
		"slots":  func(c *host.Config, n int) { c.Slots = n },
		"gen":    func(c *host.Config, n int) { c.Gen = n },
		"room":   func(c *host.Config, n int) { c.Room = n },
		"k":      func(c *host.Config, n int) { c.K = n },
		"budget": func(c *host.Config, n int) { c.Budget = n },
	} {
		most := map[string]int{"slots": 1024, "gen": 4194303, "room": 16, "k": 64, "budget": 4100}[name]
		for _, n := range []int{1, most} {
			c := good
			spoil(&c, n)
			if s, e := host.New(c); s == nil || e != api.OK {
				t.Fatal(name, n, e)
			}
		}
		for _, n := range []int{math.MinInt, -1, 0, most + 1, math.MaxInt} {
			c := good
			spoil(&c, n)
			if s, e := host.New(c); s != nil || e != api.ErrArg {
				t.Fatal(name, n, s, e)
			}
		}
	}
	if s, e := host.New(host.Config{}); s != nil || e != api.ErrArg {
		t.Fatal(s, e)
	}
}

// Generations begin where they are told to.
func TestNewWithGenAndTick(t *testing.T) {
	c := plain()
	c.Gen, c.Tick, c.Slots = 9, 77, 2
	x := mustNew(t, c)
	x.mustStep(spawn(), spawn(life(3)))
	if l := x.s.List(); x.s.Tick() != 78 || !snap.Same(l, list(ent(9216), ent(9217, life(2)))) {
		t.Fatal(x.s.Tick(), l)
	}
	x.push(spawn())
	if _, results, e := x.step(); e != api.OK || !slices.Equal(results, []api.Result{{E: api.ErrFull}}) {
		t.Fatal(results, e)
	}
}

// Push, P22.1.

func TestPush(t *testing.T) {
	x := mustNew(t, plain())
	for want, l := range map[api.Errno][]api.Order{
		api.OK:       {spawn(), despawn(7), set(1024, life(1)), add(0, tag(1, 1, 1)), remove(5, api.Spawn)},
		api.ErrArg:   {{}, {Do: 6}, spawn(comp(6)), remove(1024, 6)},
		api.ErrForm:  {{Do: api.DoSet}, spawn(life(1), life(1)), {Do: api.DoDespawn, Comps: []api.Comp{life(1)}}},
		api.ErrRange: {spawn(life(4096)), set(1024, pos(524288, 0))},
	} {
		for _, o := range l {
			if e := x.push(o); e != want {
				t.Fatal(o, e, want)
			}
		}
	}
	// Five wait already.
	for range 251 {
		if e := x.push(spawn()); e != api.OK {
			t.Fatal(e)
		}
	}
	if e := x.push(spawn()); e != api.ErrFull {
		t.Fatal(e)
	}
	if _, results, _ := x.step(); len(results) != 256 || results[0] != (api.Result{ID: 1024}) || results[1].E != api.ErrDead {
		t.Fatal(results)
	}
	if e := x.push(spawn()); e != api.OK {
		t.Fatal(e)
	}
}

// Step, P22.1.

func TestStepWithoutSessions(t *testing.T) {
	x := mustNew(t, plain())
	mustSendTo(t, x.mustStep())
	mustSendTo(t, x.mustStep(spawn(pos(0, 0), vel(1, 2)), spawn(life(0))))
	if l := x.s.List(); !snap.Same(l, list(ent(1024, pos(1, 2), vel(1, 2)))) {
		t.Fatal(l)
	}
}

// Whoever has connected is sent something at each tick, by rising clients, whatever came first.
func TestStepTellsByRisingClients(t *testing.T) {
	x := mustNew(t, plain())
	for i, client := range []byte{15, 3, 0, 8} {
		x.mustConnect(client, uint32(i+1))
	}
	x.mustLook(3, all(), api.OK)
	x.mustLook(15, api.Region{On: true, CX: 1, R: 0}, api.OK)
	here, there := ent(1024, pos(5, 5), tag(1, 2, 3)), ent(1025, pos(cell, 0))
	out := x.mustStep(spawn(here.Comps...), spawn(there.Comps...))
	mustSendTo(t, out, 0, 3, 8, 15)
	for i, want := range []struct {
		client byte
		epoch  uint32
		now    []api.Ent
	}{{0, 3, nil}, {3, 2, list(here, there)}, {8, 4, nil}, {15, 1, list(there)}} {
		mustTell(t, out[i].Frame, api.Head{Kind: api.Full, Client: want.client, Epoch: want.epoch, Tick: 1}, nil, want.now)
	}
	x.mustKick(3, api.OK)
	mustSendTo(t, x.mustStep(), 0, 8, 15)
}

// Who answers is sent Steps, who doesn't Fulls.
func TestStepBehindAcks(t *testing.T) {
	x := mustNew(t, plain())
	x.mustConnect(1, 5)
	x.mustConnect(2, 6)
	x.mustLook(1, all(), api.OK)
	x.mustLook(2, all(), api.OK)
	x.mustStep(spawn(pos(0, 0), vel(7, 0)))
	was := x.s.Project(1)
	for tick := uint32(2); tick < 20; tick++ {
		x.mustReceive(ackOf(t, 1, 5, tick-1), api.OK)
		out := x.mustStep()
		now := x.s.Project(1)
		mustTell(t, out[0].Frame, api.Head{Kind: api.Step, Client: 1, Epoch: 5, Tick: tick, Base: tick - 1}, was, now)
		mustTell(t, out[1].Frame, api.Head{Kind: api.Full, Client: 2, Epoch: 6, Tick: tick}, nil, now)
		if len(out[0].Frame) >= len(out[1].Frame) {
			t.Fatal("what changes takes as much as everything")
		}
		was = now
	}
}

// What is told is what clients are told of: who has no pos isn't, and no spawn is.
func TestStepTellsWhatIsTold(t *testing.T) {
	x := mustNew(t, plain())
	x.mustConnect(0, 1)
	x.mustLook(0, all(), api.OK)
	out := x.mustStep(spawn(life(9)), spawn(pos(1, 1), breeds(9, 5, 0)), spawn(breeds(9, 0, 0)), spawn(pos(3, 4), vel(0, 0), life(5), body(1, 2, 3), tag(4, 5, 6)))
	mustTell(t, out[0].Frame, api.Head{Kind: api.Full, Epoch: 1, Tick: 1}, nil, list(ent(1025, pos(1, 1)), ent(1027, pos(3, 4), vel(0, 0), life(4), body(1, 2, 3), tag(4, 5, 6))))
}

// By rising IDs, not by slots.
func TestStepTellsByRisingIDs(t *testing.T) {
	x := mustNew(t, plain())
	x.mustConnect(0, 1)
	x.mustLook(0, all(), api.OK)
	x.mustStep(spawn(pos(0, 0)), spawn(pos(1, 0)), spawn(pos(2, 0)))
	out := x.mustStep(despawn(1024), spawn(pos(3, 0)))
	mustTell(t, out[0].Frame, api.Head{Kind: api.Full, Epoch: 1, Tick: 2}, nil, list(ent(1025, pos(1, 0)), ent(1026, pos(2, 0)), ent(2048, pos(3, 0))))
}

func TestStepAtTheLastTick(t *testing.T) {
	c := plain()
	c.Tick = top - 2
	x := mustNew(t, c)
	x.mustConnect(7, 1)
	x.mustLook(7, all(), api.OK)
	x.mustStep(spawn(pos(0, 0), vel(1, 1)))
	was := x.s.Project(7)
	x.mustReceive(ackOf(t, 7, 1, top-1), api.OK)
	out := x.mustStep()
	mustTell(t, out[0].Frame, api.Head{Kind: api.Step, Client: 7, Epoch: 1, Tick: top, Base: top - 1}, was, list(ent(1024, pos(2, 2), vel(1, 1))))
	x.push(spawn())
	for range 3 {
		if out, results, e := x.step(); len(out) != 0 || len(results) != 0 || e != api.ErrEnd {
			t.Fatal(out, results, e)
		}
	}
	if x.s.Tick() != top || len(x.s.List()) != 1 {
		t.Fatal(x.s.Tick(), x.s.List())
	}
	// Sessions come and go still.
	x.mustReceive(ackOf(t, 7, 1, top), api.OK)
	x.mustConnect(7, 2)
	x.mustLook(7, all(), api.OK)
	x.mustKick(7, api.OK)
	c.Tick = top
	x = mustNew(t, c)
	x.mustConnect(0, 1)
	if out, _, e := x.step(); len(out) != 0 || e != api.ErrEnd {
		t.Fatal(out, e)
	}
}

// A lane that has no room for what its client is to be told doesn't hinder the others, and sends again when it has.
func TestStepWhereOneCannotBeSent(t *testing.T) {
	c := plain()
	c.Budget = 60
	x := mustNew(t, c)
	for client := range byte(3) {
		x.mustConnect(client, 1)
	}
	near := api.Region{On: true}
	x.mustLook(1, near, api.OK)
	x.mustLook(2, api.Region{On: true, CX: 5}, api.OK)
	var crowd, away []api.Order
	for i := range 30 {
		crowd = append(crowd, spawn(pos(int32(i), 0), life(100)))
		away = append(away, despawn(1024+api.ID(i)))
	}
	mustSendTo(t, x.mustStep(), 0, 1, 2)
	mustSendTo(t, x.mustStep(crowd...), 0, 2)
	mustSendTo(t, x.mustStep(), 0, 2)
	for client, want := range [][]uint32{{1, 2, 3}, {1}, {1, 2, 3}} {
		if l := x.s.Held(client); !slices.Equal(l, want) {
			t.Fatal(client, l)
		}
	}
	x.mustReceive(ackOf(t, 1, 1, 2), api.ErrNone)
	x.mustReceive(ackOf(t, 1, 1, 1), api.OK)
	mustSendTo(t, x.mustStep(), 0, 2)
	out := x.mustStep(away[2:]...)
	mustSendTo(t, out, 0, 1, 2)
	mustTell(t, out[1].Frame, api.Head{Kind: api.Step, Client: 1, Epoch: 1, Tick: 5, Base: 1}, nil, x.s.Project(1))
	for _, o := range out {
		if len(o.Frame) > 60 {
			t.Fatal(len(o.Frame))
		}
	}
	// Of one byte nothing can be sent to anybody.
	c.Budget = 1
	x = mustNew(t, c)
	x.mustConnect(0, 1)
	x.mustConnect(15, 1)
	mustSendTo(t, x.mustStep())
	mustSendTo(t, x.mustStep())
}

// A lane holds K snapshots, and no more.
func TestKOfOneAndOfTheGreatest(t *testing.T) {
	for _, k := range []int{1, 2, 64} {
		c := plain()
		c.K = k
		x := mustNew(t, c)
		x.mustConnect(4, 1)
		for range 70 {
			x.mustStep()
		}
		if l := x.s.Held(4); len(l) != k || l[0] != uint32(71-k) || l[k-1] != 70 {
			t.Fatal(k, l)
		}
		x.mustReceive(ackOf(t, 4, 1, uint32(70-k)), api.ErrNone)
		x.mustReceive(ackOf(t, 4, 1, uint32(71-k)), api.OK)
	}
}

// Receive, P22.2.

func TestReceiveOfNoFrame(t *testing.T) {
	x := mustNew(t, plain())
	x.mustConnect(3, 2)
	x.mustStep()
	good := ackOf(t, 3, 2, 1)
	x.mustReceive(nil, api.ErrShort)
	x.mustReceive([]byte{}, api.ErrShort)
	x.mustReceive(good[:3], api.ErrShort)
	x.mustReceive(make([]byte, longest+1), api.ErrLong)
	x.mustReceive(make([]byte, 4), api.ErrForm)
	x.mustReceive([]byte{1, 2, 3, 4}, api.ErrSum)
	x.mustReceive(longer(t, good), api.ErrForm)
	x.mustReceive(longer(t, connectOf(t, 3, 3)), api.ErrForm)
	x.mustReceive(longer(t, resetOf(t, 3, 2)), api.ErrForm)
	for _, p := range [][]byte{good, connectOf(t, 3, 3), resetOf(t, 3, 2)} {
		for i := range 8 * len(p) {
			q := bytes.Clone(p)
			q[i/8] ^= 1 << (i % 8)
			x.mustReceive(q, api.ErrSum)
		}
		for n := range p {
			if e := x.receive(p[:n]); e == api.OK {
				t.Fatal(n)
			}
		}
	}
	if l := x.s.Sessions(); !slices.Equal(l, []int{3}) || x.s.Epoch(3) != 2 {
		t.Fatal(l, x.s.Epoch(3))
	}
	x.mustReceive(good, api.OK)
}

// What goes from a server to its clients is nothing for a server, whether it could be read or not.
func TestReceiveOfFullAndStep(t *testing.T) {
	x := mustNew(t, plain())
	x.mustConnect(3, 2)
	x.mustLook(3, all(), api.OK)
	out := x.mustStep(spawn(pos(0, 0)))
	x.mustReceive(out[0].Frame, api.ErrForm)
	x.mustReceive(ackOf(t, 3, 2, 1), api.OK)
	out = x.mustStep(set(1024, pos(9, 9)))
	x.mustReceive(out[0].Frame, api.ErrForm)
	full := api.Head{Kind: api.Full, Client: 3, Epoch: 2, Tick: 2}
	step := api.Head{Kind: api.Step, Client: 3, Epoch: 2, Tick: 2, Base: 1}
	some := list(ent(1024, life(5)))
	for _, p := range [][]byte{frameOf(t, full, nil, nil), frameOf(t, full, nil, some), frameOf(t, step, nil, nil), frameOf(t, step, nil, some), frameOf(t, step, some, nil)} {
		x.mustReceive(p, api.ErrForm)
	}
	// So of a client without a session, too.
	full.Client, step.Client = 4, 4
	x.mustReceive(frameOf(t, full, nil, nil), api.ErrForm)
	x.mustReceive(frameOf(t, step, nil, nil), api.ErrForm)
}

func TestConnectOfFirstAndLast(t *testing.T) {
	c := plain()
	c.Room = 2
	x := mustNew(t, c)
	x.mustConnect(15, 1)
	x.mustConnect(0, 1)
	if l := x.s.Sessions(); !slices.Equal(l, []int{0, 15}) {
		t.Fatal(l)
	}
	mustSendTo(t, x.mustStep(), 0, 15)
	for client := byte(1); client < 15; client++ {
		x.mustReceive(connectOf(t, client, 1), api.ErrFull)
	}
}

func TestRoom(t *testing.T) {
	for _, room := range []int{1, 2, 7, 15, 16} {
		c := plain()
		c.Room = room
		x := mustNew(t, c)
		for client := range byte(16) {
			want := api.OK
			if int(client) >= room {
				want = api.ErrFull
			}
			x.mustReceive(connectOf(t, client, 1), want)
		}
		if n := len(x.s.Sessions()); n != room {
			t.Fatal(n, room)
		}
		// Who has a session needs no more room.
		for client := range room {
			x.mustConnect(byte(client), 2)
		}
		// Where one ends there is room for one.
		last := byte(15)
		x.mustReceive(resetOf(t, 0, 2), api.OK)
		if room < 16 {
			x.mustConnect(last, 1)
			x.mustReceive(connectOf(t, 0, 3), api.ErrFull)
			x.mustKick(int(last), api.OK)
		}
		x.mustConnect(0, 3)
	}
}

// What has no room begins no session: its epoch may come again.
func TestConnectWithoutRoomCountsForNothing(t *testing.T) {
	c := plain()
	c.Room = 1
	x := mustNew(t, c)
	x.mustConnect(2, 1)
	x.mustReceive(connectOf(t, 3, top), api.ErrFull)
	if n := x.s.Epoch(3); n != 0 {
		t.Fatal(n)
	}
	x.mustReceive(resetOf(t, 2, 1), api.OK)
	x.mustConnect(3, 1)
	x.mustReceive(connectOf(t, 2, 2), api.ErrFull)
	// What is stale is stale even without room.
	x.mustReceive(connectOf(t, 2, 1), api.ErrStale)
	if n := x.s.Epoch(2); n != 1 {
		t.Fatal(n)
	}
}

func TestEpochsRise(t *testing.T) {
	x := mustNew(t, plain())
	for _, epoch := range []uint32{1, 2, 5, 1 << 31, top - 1, top} {
		x.mustConnect(9, epoch)
		if n := x.s.Epoch(9); n != epoch {
			t.Fatal(n, epoch)
		}
		for _, old := range []uint32{1, epoch / 2, epoch - 1, epoch} {
			if old > 0 {
				x.mustReceive(connectOf(t, 9, old), api.ErrStale)
			}
		}
	}
	// All that its sessions had count, those that have ended too.
	x.mustReceive(resetOf(t, 9, top), api.OK)
	x.mustReceive(connectOf(t, 9, top), api.ErrStale)
	x.mustReceive(connectOf(t, 9, 1), api.ErrStale)
	x.mustConnect(8, 7)
	x.mustKick(8, api.OK)
	if n := x.s.Epoch(8); n != 7 {
		t.Fatal(n)
	}
	x.mustReceive(connectOf(t, 8, 7), api.ErrStale)
	x.mustReceive(connectOf(t, 8, 6), api.ErrStale)
	x.mustConnect(8, 8)
	// Another client's don't.
	x.mustConnect(7, 1)
}

// A new session has nothing of the one in whose place it comes.
func TestConnectInThePlaceOfItsOwn(t *testing.T) {
	c := plain()
	c.Room = 1
	x := mustNew(t, c)
	x.mustConnect(6, 1)
	x.mustLook(6, all(), api.OK)
	x.mustStep(spawn(pos(1, 1)))
	x.mustReceive(ackOf(t, 6, 1, 1), api.OK)
	x.mustStep()
	x.mustConnect(6, 2)
	if r := x.s.Region(6); r != (api.Region{}) || len(x.s.Held(6)) != 0 || len(x.s.Project(6)) != 0 {
		t.Fatal(r, x.s.Held(6), x.s.Project(6))
	}
	if tick, ok := x.s.Base(6); tick != 0 || ok {
		t.Fatal(tick, ok)
	}
	x.mustReceive(ackOf(t, 6, 1, 2), api.ErrEpoch)
	x.mustReceive(ackOf(t, 6, 2, 2), api.ErrNone)
	out := x.mustStep()
	mustTell(t, out[0].Frame, api.Head{Kind: api.Full, Client: 6, Epoch: 2, Tick: 3}, nil, nil)
	x.mustFollow(6, 1024, 1, api.OK)
	x.mustConnect(6, 3)
	if r := x.s.Region(6); r != (api.Region{}) {
		t.Fatal(r)
	}
	// So has one behind an end.
	x.mustLook(6, all(), api.OK)
	x.mustStep()
	x.mustReceive(resetOf(t, 6, 3), api.OK)
	x.mustConnect(6, 4)
	if r := x.s.Region(6); r != (api.Region{}) || len(x.s.Held(6)) != 0 {
		t.Fatal(r, x.s.Held(6))
	}
}

func TestAck(t *testing.T) {
	x := mustNew(t, plain())
	x.mustReceive(ackOf(t, 2, 3, 0), api.ErrNone)
	x.mustConnect(2, 3)
	x.mustConnect(4, 3)
	x.mustReceive(ackOf(t, 2, 3, 0), api.ErrNone)
	x.mustReceive(ackOf(t, 2, 2, 0), api.ErrEpoch)
	for range 4 {
		x.mustStep()
	}
	x.mustReceive(ackOf(t, 2, 4, 1), api.ErrEpoch)
	x.mustReceive(ackOf(t, 2, 1, 1), api.ErrEpoch)
	x.mustReceive(ackOf(t, 3, 3, 1), api.ErrNone)
	x.mustReceive(ackOf(t, 2, 3, 5), api.ErrNone)
	x.mustReceive(ackOf(t, 2, 3, 2), api.OK)
	if tick, ok := x.s.Base(2); tick != 2 || !ok || !slices.Equal(x.s.Held(2), []uint32{2, 3, 4}) {
		t.Fatal(tick, ok, x.s.Held(2))
	}
	if tick, ok := x.s.Base(4); tick != 0 || ok || !slices.Equal(x.s.Held(4), []uint32{1, 2, 3, 4}) {
		t.Fatal(tick, ok, x.s.Held(4))
	}
	// A doubled one and an older one are stale; of another epoch they are that first.
	x.mustReceive(ackOf(t, 2, 3, 2), api.ErrStale)
	x.mustReceive(ackOf(t, 2, 3, 1), api.ErrStale)
	x.mustReceive(ackOf(t, 2, 9, 1), api.ErrEpoch)
	x.mustReceive(ackOf(t, 2, 3, top), api.ErrNone)
	x.mustReceive(ackOf(t, 2, 3, 4), api.OK)
	x.mustReceive(spoilt(ackOf(t, 4, 3, 4)), api.ErrSum)
	if _, ok := x.s.Base(4); ok {
		t.Fatal("a spoilt frame is taken")
	}
	x.mustKick(2, api.OK)
	x.mustReceive(ackOf(t, 2, 3, 4), api.ErrNone)
	x.mustReceive(ackOf(t, 2, 9, 4), api.ErrNone)
}

func TestReset(t *testing.T) {
	x := mustNew(t, plain())
	x.mustReceive(resetOf(t, 5, 1), api.ErrNone)
	x.mustConnect(5, 3)
	x.mustConnect(6, 3)
	x.mustReceive(resetOf(t, 5, 2), api.ErrEpoch)
	x.mustReceive(resetOf(t, 5, 4), api.ErrEpoch)
	x.mustReceive(resetOf(t, 5, 3), api.OK)
	x.mustReceive(resetOf(t, 5, 3), api.ErrNone)
	x.mustReceive(resetOf(t, 5, 2), api.ErrNone)
	if l := x.s.Sessions(); !slices.Equal(l, []int{6}) || x.s.Epoch(5) != 3 {
		t.Fatal(l, x.s.Epoch(5))
	}
	mustSendTo(t, x.mustStep(), 6)
}

// Look, P22.3.

func TestLookErrors(t *testing.T) {
	x := mustNew(t, plain())
	x.mustConnect(0, 1)
	x.mustConnect(15, 1)
	for _, client := range []int{math.MinInt, -1, 16, 17, 256, math.MaxInt} {
		x.mustLook(client, all(), api.ErrArg)
		x.mustLook(client, api.Region{CX: 32}, api.ErrArg)
	}
	for _, r := range []api.Region{{CX: -33}, {CX: 32}, {CY: -33}, {CY: 32}, {R: -1}, {R: 9}, {CX: math.MinInt, CY: math.MaxInt, R: math.MaxInt}} {
		for _, on := range []bool{false, true} {
			r.On = on
			x.mustLook(0, r, api.ErrArg)
			x.mustLook(1, r, api.ErrArg)
		}
	}
	x.mustLook(1, all(), api.ErrNone)
	x.mustLook(14, api.Region{}, api.ErrNone)
	x.mustLook(0, all(), api.OK)
	x.mustLook(15, all(), api.OK)
	x.mustLook(0, api.Region{On: true, R: 9}, api.ErrArg)
	if r := x.s.Region(0); r != all() {
		t.Fatal("what is refused changes a region", r)
	}
	x.mustKick(0, api.OK)
	x.mustLook(0, all(), api.ErrNone)
}

func TestLookAtEdges(t *testing.T) {
	x := mustNew(t, plain())
	x.mustConnect(1, 1)
	x.mustStep(spawn(pos(-524288, -524288)), spawn(pos(524287, 524287)), spawn(pos(0, -1)), spawn(pos(-1, 0)))
	for _, y := range []struct {
		r    api.Region
		want []api.ID
	}{
		{api.Region{}, nil},
		{api.Region{R: 8}, nil},
		{api.Region{CX: -32, CY: 31, R: 3}, nil},
		{api.Region{On: true, CX: -32, CY: -32}, []api.ID{1024}},
		{api.Region{On: true, CX: -32, CY: -32, R: 8}, []api.ID{1024}},
		{api.Region{On: true, CX: -32, CY: 31, R: 8}, nil},
		{api.Region{On: true, CX: 31, CY: 31}, []api.ID{1025}},
		{api.Region{On: true, CX: 23, CY: 31, R: 8}, []api.ID{1025}},
		{api.Region{On: true, CX: 22, CY: 31, R: 8}, nil},
		{api.Region{On: true}, nil},
		{api.Region{On: true, CY: -1}, []api.ID{1026}},
		{api.Region{On: true, R: 1}, []api.ID{1026, 1027}},
		{api.Region{On: true, R: 8}, []api.ID{1026, 1027}},
	} {
		x.mustLook(1, y.r, api.OK)
		if r := x.s.Region(1); r != y.r {
			t.Fatal(r, y.r)
		}
		out := x.mustStep()
		_, l, e := packet.Open(out[0].Frame, nil)
		var ids []api.ID
		for _, x := range l {
			ids = append(ids, x.ID)
		}
		if e != api.OK || !slices.Equal(ids, y.want) || !snap.Same(l, x.s.Project(1)) {
			t.Fatal(y.r, ids, e)
		}
	}
}

// A look in the midst of a session changes what is told next, behind what was told before.
func TestLookElsewhere(t *testing.T) {
	x := mustNew(t, plain())
	x.mustConnect(1, 1)
	x.mustLook(1, api.Region{On: true}, api.OK)
	here, there := ent(1024, pos(1, 1)), ent(1025, pos(5*cell, 1))
	x.mustStep(spawn(here.Comps...), spawn(there.Comps...))
	x.mustReceive(ackOf(t, 1, 1, 1), api.OK)
	x.mustLook(1, api.Region{On: true, CX: 5}, api.OK)
	out := x.mustStep()
	mustTell(t, out[0].Frame, api.Head{Kind: api.Step, Client: 1, Epoch: 1, Tick: 2, Base: 1}, list(here), list(there))
	x.mustLook(1, api.Region{}, api.OK)
	out = x.mustStep()
	mustTell(t, out[0].Frame, api.Head{Kind: api.Step, Client: 1, Epoch: 1, Tick: 3, Base: 1}, list(here), nil)
}

// Follow, P22.3.

func TestFollowErrors(t *testing.T) {
	x := mustNew(t, plain())
	x.mustConnect(0, 1)
	x.mustConnect(15, 1)
	if e := x.push(spawn(pos(0, 0))); e != api.OK {
		t.Fatal(e)
	}
	// It isn't there before the Step.
	x.mustFollow(0, 1024, 1, api.ErrDead)
	x.step()
	for _, client := range []int{math.MinInt, -1, 16, 256, math.MaxInt} {
		x.mustFollow(client, 1024, 1, api.ErrArg)
		x.mustFollow(client, 0, 9, api.ErrArg)
	}
	for _, radius := range []int{math.MinInt, -1, 9, math.MaxInt} {
		x.mustFollow(0, 1024, radius, api.ErrArg)
		x.mustFollow(1, 1024, radius, api.ErrArg)
		x.mustFollow(0, 0, radius, api.ErrArg)
	}
	x.mustFollow(1, 1024, 1, api.ErrNone)
	x.mustFollow(1, 0, 1, api.ErrNone)
	x.mustLook(0, all(), api.OK)
	for _, id := range []api.ID{0, 1, 1023, 1025, 2048, top} {
		x.mustFollow(0, id, 1, api.ErrDead)
	}
	if r := x.s.Region(0); r != all() {
		t.Fatal("what is refused changes a region", r)
	}
	x.mustFollow(0, 1024, 0, api.OK)
	x.mustFollow(15, 1024, 8, api.OK)
	x.mustFollow(0, 2048, 3, api.ErrDead)
	x.mustFollow(0, 1024, 9, api.ErrArg)
	if r := x.s.Region(0); r != (api.Region{On: true}) {
		t.Fatal("what is refused changes whom it follows", r)
	}
	x.mustStep(despawn(1024))
	x.mustFollow(0, 1024, 1, api.ErrDead)
	x.mustKick(0, api.OK)
	x.mustFollow(0, 1024, 1, api.ErrNone)
}

// One that is followed moves, has no pos, has one again, and dies.
func TestFollow(t *testing.T) {
	x := mustNew(t, plain())
	x.mustConnect(3, 1)
	x.mustStep(spawn(pos(0, 0), vel(10000, -10000)), spawn(pos(3*cell, 0)))
	x.mustFollow(3, 1024, 0, api.OK)
	for n := int32(2); n < 40; n++ {
		at := pos(10000*n, -10000*n)
		out := x.mustStep()
		if r := x.s.Region(3); r != view.Around(at.F[0], at.F[1], 0) {
			t.Fatal(n, r)
		}
		mustTell(t, out[0].Frame, api.Head{Kind: api.Full, Client: 3, Epoch: 1, Tick: uint32(n)}, nil, list(ent(1024, at, vel(10000, -10000))))
	}
	none := api.Region{}
	out := x.mustStep(remove(1024, api.Pos))
	if r := x.s.Region(3); r != none {
		t.Fatal(r)
	}
	mustTell(t, out[0].Frame, api.Head{Kind: api.Full, Client: 3, Epoch: 1, Tick: 40}, nil, nil)
	x.mustStep()
	out = x.mustStep(add(1024, pos(3*cell, cell)), remove(1024, api.Vel))
	if r := x.s.Region(3); r != (api.Region{On: true, CX: 3, CY: 1}) {
		t.Fatal(r)
	}
	mustTell(t, out[0].Frame, api.Head{Kind: api.Full, Client: 3, Epoch: 1, Tick: 42}, nil, list(ent(1024, pos(3*cell, cell))))
	x.mustFollow(3, 1024, 8, api.OK)
	out = x.mustStep()
	mustTell(t, out[0].Frame, api.Head{Kind: api.Full, Client: 3, Epoch: 1, Tick: 43}, nil, list(ent(1024, pos(3*cell, cell)), ent(1025, pos(3*cell, 0))))
	x.mustStep(despawn(1024))
	if r := x.s.Region(3); r != none || len(x.s.Project(3)) != 0 {
		t.Fatal(r, x.s.Project(3))
	}
	// Another one in its slot isn't it.
	x.mustStep(spawn(pos(3*cell, 0)))
	if r := x.s.Region(3); r != none || x.s.List()[0].ID != 2048 {
		t.Fatal(r)
	}
}

// One without a pos can be followed, too.
func TestFollowOfOneWithoutPos(t *testing.T) {
	x := mustNew(t, plain())
	x.mustConnect(3, 1)
	x.mustStep(spawn(life(100)))
	x.mustFollow(3, 1024, 2, api.OK)
	if r := x.s.Region(3); r != (api.Region{}) {
		t.Fatal(r)
	}
	x.mustStep(add(1024, pos(-524288, 524287)))
	if r := x.s.Region(3); r != (api.Region{On: true, CX: -32, CY: 31, R: 2}) {
		t.Fatal(r)
	}
}

// One looks, or follows: what was told last holds.
func TestLookAndFollow(t *testing.T) {
	x := mustNew(t, plain())
	x.mustConnect(3, 1)
	x.mustConnect(4, 1)
	x.mustStep(spawn(pos(2*cell, 0)))
	x.mustLook(3, api.Region{On: true, CY: 9}, api.OK)
	x.mustFollow(3, 1024, 1, api.OK)
	if r := x.s.Region(3); r != (api.Region{On: true, CX: 2, R: 1}) {
		t.Fatal(r)
	}
	x.mustLook(3, api.Region{On: true, CY: 9}, api.OK)
	x.mustStep(set(1024, pos(-cell, 0)))
	if r := x.s.Region(3); r != (api.Region{On: true, CY: 9}) {
		t.Fatal(r)
	}
	// Two may follow one.
	x.mustFollow(3, 1024, 4, api.OK)
	x.mustFollow(4, 1024, 5, api.OK)
	x.mustStep(set(1024, pos(-cell, cell)))
	if a, b := x.s.Region(3), x.s.Region(4); a != (api.Region{On: true, CX: -1, CY: 1, R: 4}) || b != (api.Region{On: true, CX: -1, CY: 1, R: 5}) {
		t.Fatal(a, b)
	}
	x.mustLook(4, api.Region{}, api.OK)
	x.mustStep(despawn(1024))
}

// Kick, P22.3.

func TestKick(t *testing.T) {
	x := mustNew(t, plain())
	for _, client := range []int{math.MinInt, -1, 16, 256, math.MaxInt} {
		x.mustKick(client, api.ErrArg)
	}
	x.mustKick(0, api.ErrNone)
	x.mustKick(15, api.ErrNone)
	x.mustConnect(15, 7)
	x.mustConnect(0, top)
	mustTell(t, x.mustKick(15, api.OK), api.Head{Kind: api.Reset, Client: 15, Epoch: 7}, nil, nil)
	x.mustKick(15, api.ErrNone)
	if l := x.s.Sessions(); !slices.Equal(l, []int{0}) {
		t.Fatal(l)
	}
	mustTell(t, x.mustKick(0, api.OK), api.Head{Kind: api.Reset, Epoch: top}, nil, nil)
	mustSendTo(t, x.mustStep())
	x.mustConnect(15, 8)
	mustTell(t, x.mustKick(15, api.OK), api.Head{Kind: api.Reset, Client: 15, Epoch: 8}, nil, nil)
}

// The others, P22.4.

// A session that has ended tells nothing but its epoch.
func TestBehindTheEnd(t *testing.T) {
	x := mustNew(t, plain())
	x.mustConnect(2, 4)
	x.mustLook(2, all(), api.OK)
	x.mustStep(spawn(pos(0, 0)))
	x.mustReceive(ackOf(t, 2, 4, 1), api.OK)
	if tick, ok := x.s.Base(2); tick != 1 || !ok || len(x.s.Held(2)) != 1 || len(x.s.Project(2)) != 1 || x.s.Region(2) != all() {
		t.Fatal(tick, ok)
	}
	x.mustKick(2, api.OK)
	tick, ok := x.s.Base(2)
	if tick != 0 || ok || len(x.s.Held(2)) != 0 || len(x.s.Project(2)) != 0 || x.s.Region(2) != (api.Region{}) || x.s.Epoch(2) != 4 {
		t.Fatal(tick, ok, x.s.Held(2), x.s.Project(2), x.s.Region(2), x.s.Epoch(2))
	}
}

func TestOfClientsThatThereAreNot(t *testing.T) {
	x := mustNew(t, plain())
	for client := range byte(16) {
		x.mustConnect(client, 1)
		x.mustLook(int(client), all(), api.OK)
	}
	x.mustStep(spawn(pos(0, 0)))
	for _, client := range []int{math.MinInt, -16, -1, 16, 17, 256, math.MaxInt} {
		tick, ok := x.s.Base(client)
		if tick != 0 || ok || x.s.Epoch(client) != 0 || x.s.Region(client) != (api.Region{}) || len(x.s.Held(client)) != 0 || len(x.s.Project(client)) != 0 {
			t.Fatal(client)
		}
	}
}

// List is by slots, Project by IDs.
func TestListAndProject(t *testing.T) {
	x := mustNew(t, plain())
	x.mustConnect(0, 1)
	x.mustLook(0, all(), api.OK)
	x.mustStep(spawn(pos(0, 0), breeds(9, 8, 1)), spawn(pos(1, 1)))
	x.mustStep(despawn(1024), spawn(pos(2, 2), breeds(9, 8, 1)))
	if l := x.s.List(); !snap.Same(l, list(ent(2048, pos(2, 2), breeds(9, 7, 1)), ent(1025, pos(1, 1)))) {
		t.Fatal(l)
	}
	if l := x.s.Project(0); !snap.Same(l, list(ent(1025, pos(1, 1)), ent(2048, pos(2, 2)))) {
		t.Fatal(l)
	}
	// Orders that wait don't show.
	x.push(spawn(pos(3, 3)))
	x.push(despawn(1025))
	if l := x.s.Project(0); len(l) != 2 || len(x.s.List()) != 2 {
		t.Fatal(l)
	}
}

func TestNilServer(t *testing.T) {
	var s *host.Server
	if e := s.Push(spawn()); e != api.ErrNone {
		t.Fatal(e)
	}
	if e := s.Push(api.Order{}); e != api.ErrNone {
		t.Fatal(e)
	}
	if out, results, e := s.Step(); len(out) != 0 || len(results) != 0 || e != api.ErrNone {
		t.Fatal(out, results, e)
	}
	for _, p := range [][]byte{nil, {1, 2, 3, 4}, connectOf(t, 0, 1), ackOf(t, 1, 1, 1), make([]byte, longest+1)} {
		if e := s.Receive(p); e != api.ErrNone {
			t.Fatal(e)
		}
	}
	for _, client := range []int{-1, 0, 15, 16} {
		if e := s.Look(client, api.Region{R: 9}); e != api.ErrNone {
			t.Fatal(e)
		}
		if e := s.Look(client, all()); e != api.ErrNone {
			t.Fatal(e)
		}
		if e := s.Follow(client, 1024, 9); e != api.ErrNone {
			t.Fatal(e)
		}
		if e := s.Follow(client, 1024, 1); e != api.ErrNone {
			t.Fatal(e)
		}
		if p, e := s.Kick(client); len(p) != 0 || e != api.ErrNone {
			t.Fatal(p, e)
		}
		tick, ok := s.Base(client)
		if tick != 0 || ok || s.Epoch(client) != 0 || s.Region(client) != (api.Region{}) || len(s.Held(client)) != 0 || len(s.Project(client)) != 0 {
			t.Fatal(client)
		}
	}
	if len(s.Sessions()) != 0 || s.Tick() != 0 || len(s.List()) != 0 {
		t.Fatal("a nil server has something")
	}
}

// Memory.

// grown has its spare room filled by what tells it.
func grown[T any](l []T, by T) []T {
	n := len(l)
	return append(slices.Clone(l), by, by, by)[:n]
}

// spoil writes over all of a list, spare room too.
func spoil[T any](l []T, by T) {
	l = l[:cap(l)]
	for i := range l {
		l[i] = by
	}
}

func spoilSnap(l []api.Ent) {
	for _, x := range l {
		spoil(x.Comps, comp(99, -9, -9, -9))
	}
	spoil(l, ent(99))
}

func TestHandedInIsNeitherChangedNorKept(t *testing.T) {
	x := mustNew(t, plain())
	comps := grown([]api.Comp{pos(1, 2), life(9)}, comp(77))
	want := slices.Clone(comps[:cap(comps)])
	if e := x.push(spawn(comps...)); e != api.OK {
		t.Fatal(e)
	}
	frames := [][]byte{connectOf(t, 3, 1), ackOf(t, 3, 1, 1), resetOf(t, 3, 1), {1, 2, 3, 4}, make([]byte, 9)}
	for _, p := range frames {
		q := grown(p, 0x77)
		kept := slices.Clone(q[:cap(q)])
		x.receive(q)
		if !bytes.Equal(q[:cap(q)], kept) {
			t.Fatal("a frame that was handed in is another one")
		}
		spoil(q, 0xee)
		x.same()
	}
	if !slices.Equal(comps[:cap(comps)], want) {
		t.Fatal("an order that was handed in is another one")
	}
	spoil(comps, comp(99, 9, 9, 9))
	x.step()
	if l := x.s.List(); !snap.Same(l, list(ent(1024, pos(1, 2), life(8)))) {
		t.Fatal(l)
	}
}

// answers is all that a server tells of itself, and that a caller may write over.
type answers struct {
	out      []api.Out
	results  []api.Result
	sessions []int
	held     []uint32
	project  []api.Ent
	list     []api.Ent
}

func (x *pair) answers() answers {
	x.t.Helper()
	out, results, e := x.step()
	if e != api.OK {
		x.t.Fatal(e)
	}
	return answers{out, results, x.s.Sessions(), x.s.Held(0), x.s.Project(0), x.s.List()}
}

func (a answers) copied() answers {
	out := slices.Clone(a.out)
	for i := range out {
		out[i].Frame = bytes.Clone(out[i].Frame)
	}
	return answers{out, slices.Clone(a.results), slices.Clone(a.sessions), slices.Clone(a.held), snap.Copy(a.project), snap.Copy(a.list)}
}

func (a answers) is(b answers) bool {
	return slices.EqualFunc(a.out, b.out, sameOut) && slices.Equal(a.results, b.results) && slices.Equal(a.sessions, b.sessions) &&
		slices.Equal(a.held, b.held) && snap.Same(a.project, b.project) && snap.Same(a.list, b.list)
}

func (a answers) spoil() {
	for _, o := range a.out {
		spoil(o.Frame, 0xee)
	}
	spoil(a.out, api.Out{To: 99})
	spoil(a.results, api.Result{E: 99, ID: 99})
	spoil(a.sessions, 99)
	spoil(a.held, 99)
	spoilSnap(a.project)
	spoilSnap(a.list)
}

func TestHandedOutIsNew(t *testing.T) {
	x := mustNew(t, plain())
	for client := range byte(4) {
		x.mustConnect(client, 1)
		x.mustLook(int(client), all(), api.OK)
	}
	var got, want []answers
	for i := range 8 {
		x.push(spawn(pos(int32(i), 0), vel(1, 1), life(9)))
		x.push(set(1024, pos(-5, int32(i))))
		a := x.answers()
		got, want = append(got, a), append(want, a.copied())
		if i%3 == 1 {
			x.mustReceive(ackOf(t, 0, 1, uint32(i+1)), api.OK)
		}
	}
	x.mustReceive(resetOf(t, 3, 1), api.OK)
	for i := range got {
		if !got[i].is(want[i]) {
			t.Fatal("later calls change what was answered", i)
		}
	}
	for i := range got {
		got[i].spoil()
		x.same()
		for k := i + 1; k < len(got); k++ {
			if !got[k].is(want[k]) {
				t.Fatal("two answers share memory", i, k)
			}
		}
	}
	// Within one answer, too.
	a := x.answers()
	b := a.copied()
	spoil(a.out[0].Frame, 0xee)
	if !sameOut(a.out[1], b.out[1]) || !sameOut(a.out[2], b.out[2]) {
		t.Fatal("two frames of one answer share memory")
	}
	spoilSnap(x.s.Project(1))
	spoilSnap(x.s.List())
	p := x.mustKick(0, api.OK)
	q := x.mustKick(1, api.OK)
	spoil(p, 0xee)
	mustTell(t, q, api.Head{Kind: api.Reset, Client: 1, Epoch: 1}, nil, nil)
	x.mustStep()
}

// Servers know nothing of each other.
func TestServersApart(t *testing.T) {
	a, b := mustNew(t, plain()), mustNew(t, plain())
	a.mustConnect(1, 5)
	b.mustReceive(ackOf(t, 1, 5, 1), api.ErrNone)
	b.mustConnect(1, 2)
	a.mustLook(1, all(), api.OK)
	a.mustStep(spawn(pos(0, 0)))
	b.same()
	b.mustStep()
	a.same()
}

// Long scripts.

// throwOrder is one that may be done, or not.
func throwOrder(d *dice) api.Order {
	id := api.ID(1024*(1+d.throw(3)) + d.throw(12))
	at := pos(int32(d.throw(9*cell)-4*cell), int32(d.throw(9*cell)-4*cell))
	switch d.throw(9) {
	case 0, 1, 2:
		return spawn(at, vel(int32(d.throw(20000)-10000), int32(d.throw(20000)-10000)))
	case 3:
		return spawn(at, life(int32(d.throw(9))), breeds(3, 0, 1))
	case 4:
		return despawn(id)
	case 5:
		return set(id, at)
	case 6:
		return add(id, at)
	case 7:
		return remove(id, byte(d.throw(7)))
	}
	return spawn(life(5), tag(1, 2, 3))
}

// throwFrame is one that a client sends, of now or of before, or one that none sends.
func throwFrame(t *testing.T, d *dice, x *pair) []byte {
	client := byte(d.throw(6))
	epoch := x.s.Epoch(int(client)) + uint32(d.throw(8))/6
	if d.throw(9) == 0 {
		epoch += 2 * uint32(d.throw(2))
	}
	epoch = max(epoch, 1)
	tick := x.s.Tick() - uint32(d.throw(5))
	var p []byte
	switch d.throw(12) {
	case 0:
		p = resetOf(t, client, epoch)
	case 1, 2, 3:
		p = connectOf(t, client, epoch)
	case 4:
		p = frameOf(t, api.Head{Kind: api.Full, Client: client, Epoch: epoch, Tick: tick}, nil, nil)
	default:
		p = ackOf(t, client, epoch, tick)
	}
	switch d.throw(15) {
	case 0:
		return spoilt(p)
	case 1:
		return longer(t, p)
	}
	return p
}

func script(t *testing.T, seed int, count map[api.Errno]int) {
	d := dice(seed)
	c := host.Config{Slots: 1 + d.throw(30), Gen: 1, Tick: uint32(5 + d.throw(9)), Room: 1 + d.throw(5), K: 1 + d.throw(5), Budget: []int{40, 80, 160, longest}[d.throw(4)]}
	if d.throw(10) == 0 {
		c.Tick = top - uint32(d.throw(40))
	}
	x := mustNew(t, c)
	for range 200 {
		client := d.throw(7) - 1
		switch d.throw(14) {
		case 0, 1, 2:
			_, _, e := x.step()
			count[e]++
		case 3, 4:
			x.push(throwOrder(&d))
		case 5:
			r := api.Region{On: d.throw(4) > 0, CX: d.throw(9) - 4, CY: d.throw(9) - 4, R: d.throw(10) - d.throw(3)}
			e := x.m.look(client, r)
			if f := x.s.Look(client, r); e != f {
				t.Fatalf("Look(%d, %v) = %d, not %d", client, r, f, e)
			}
			count[e]++
		case 6:
			id, radius := api.ID(1024*(1+d.throw(2))+d.throw(9)), d.throw(10)
			e := x.m.follow(client, id, radius)
			if f := x.s.Follow(client, id, radius); e != f {
				t.Fatalf("Follow(%d, %d, %d) = %d, not %d", client, id, radius, f, e)
			}
			count[e]++
		case 7:
			if d.throw(4) == 0 {
				p, e := x.m.kick(client)
				if q, f := x.s.Kick(client); e != f || !bytes.Equal(p, q) {
					t.Fatalf("Kick(%d) = %x, %d, not %x, %d", client, q, f, p, e)
				}
			}
		default:
			count[x.receive(throwFrame(t, &d, x))]++
		}
		x.same()
	}
}

func TestLongScripts(t *testing.T) {
	count := map[api.Errno]int{}
	for seed := range 150 {
		script(t, seed, count)
	}
	// The scripts are worth something only if each thing comes to pass in them.
	for _, e := range []api.Errno{api.OK, api.ErrArg, api.ErrForm, api.ErrSum, api.ErrDead, api.ErrFull, api.ErrNone, api.ErrEnd, api.ErrStale, api.ErrEpoch} {
		if count[e] < 30 {
			t.Fatal("hardly any of them", e, count)
		}
	}
}

// The cells tell the same as every entity asked, in a full world that moves.
func TestWhatIsSentIsWhatIsShown(t *testing.T) {
	c := plain()
	c.Slots = api.MaxSlots
	x := mustNew(t, c)
	d := dice(7)
	for client := range 16 {
		x.mustConnect(byte(client), 1)
		x.mustLook(client, api.Region{On: true, CX: d.throw(64) - 32, CY: d.throw(64) - 32, R: d.throw(5)}, api.OK)
	}
	for range 4 {
		for range 256 {
			x.s.Push(spawn(pos(int32(d.throw(1<<20)-1<<19), int32(d.throw(1<<20)-1<<19)), vel(int32(d.throw(65536)-32768), int32(d.throw(65536)-32768))))
		}
		x.s.Step()
	}
	for range 20 {
		out, _, e := x.s.Step()
		if e != api.OK || len(out) != 16 {
			t.Fatal(e, len(out))
		}
		for _, o := range out {
			if _, l, e := packet.Open(o.Frame, nil); e != api.OK || !snap.Same(l, x.s.Project(o.To)) {
				t.Fatal(o.To, l, e)
			}
		}
	}
}

// A guest at the other end has what it is to have, and is sent away.
func TestWithGuest(t *testing.T) {
	x := mustNew(t, plain())
	c, _ := guest.New(5, 50, 4)
	p, _ := c.Connect()
	x.mustReceive(p, api.OK)
	x.mustLook(5, all(), api.OK)
	for i := range 10 {
		out := x.mustStep(spawn(pos(int32(i), 0), vel(1, 1), life(4)))
		p, e := c.Receive(out[0].Frame)
		if e != api.OK || !snap.Same(c.Read(), x.s.Project(5)) {
			t.Fatal(e, c.Read(), x.s.Project(5))
		}
		x.mustReceive(p, api.OK)
	}
	if _, e := c.Receive(x.mustKick(5, api.OK)); e != api.OK || c.On() {
		t.Fatal(e, c.On())
	}
	p, _ = c.Connect()
	x.mustReceive(p, api.OK)
	p, _ = c.Leave()
	x.mustReceive(p, api.OK)
	x.mustReceive(p, api.ErrNone)
}

// The same calls are answered the same, whatever other servers were told between.
func TestSameCallsSameAnswers(t *testing.T) {
	run := func() []answers {
		d := dice(3)
		x, noise := mustNew(t, plain()), mustNew(t, plain())
		x.mustConnect(0, 1)
		x.mustLook(0, all(), api.OK)
		var l []answers
		for range 60 {
			x.s.Push(throwOrder(&d))
			out, results, _ := x.s.Step()
			l = append(l, answers{out, results, x.s.Sessions(), x.s.Held(0), x.s.Project(0), x.s.List()})
			if d.throw(3) == 0 {
				x.s.Receive(ackOf(t, 0, 1, x.s.Tick()))
			}
			noise.mustStep(spawn(pos(0, 0)))
		}
		return l
	}
	if !slices.EqualFunc(run(), run(), answers.is) {
		t.Fatal("two runs differ")
	}
}
