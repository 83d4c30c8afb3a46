package host_test

import (
	"bytes"
	"slices"
	"testing"

	"pinnace/api"
	"pinnace/host"
	"pinnace/lane"
	"pinnace/packet"
	"pinnace/snap"
	"pinnace/view"
	"pinnace/world"
)

// dice throws the same numbers in every run.
type dice uint64

func (d *dice) throw(n int) int {
	*d = *d*6364136223846793005 + 1442695040888963407
	return int(uint64(*d) >> 33 % uint64(n))
}

func comp(kind byte, f ...int32) api.Comp {
	c := api.Comp{Kind: kind}
	copy(c.F[:], f)
	return c
}

func pos(x, y int32) api.Comp { return comp(api.Pos, x, y) }

func vel(dx, dy int32) api.Comp { return comp(api.Vel, dx, dy) }

func life(left int32) api.Comp { return comp(api.Life, left) }

func body(shape, hp, size int32) api.Comp { return comp(api.Body, shape, hp, size) }

func tag(team, color, flags int32) api.Comp { return comp(api.Tag, team, color, flags) }

func breeds(every, left, shape int32) api.Comp { return comp(api.Spawn, every, left, shape) }

func ent(id api.ID, l ...api.Comp) api.Ent { return api.Ent{ID: id, Comps: l} }

func list(l ...api.Ent) []api.Ent { return l }

func spawn(l ...api.Comp) api.Order { return api.Order{Do: api.DoSpawn, Comps: l} }

func despawn(id api.ID) api.Order { return api.Order{Do: api.DoDespawn, ID: id} }

func set(id api.ID, c api.Comp) api.Order {
	return api.Order{Do: api.DoSet, ID: id, Comps: []api.Comp{c}}
}

func add(id api.ID, c api.Comp) api.Order {
	return api.Order{Do: api.DoAdd, ID: id, Comps: []api.Comp{c}}
}

func remove(id api.ID, kind byte) api.Order {
	return api.Order{Do: api.DoRemove, ID: id, Kind: kind}
}

// frameOf is the frame of a head that must be right.
func frameOf(t *testing.T, h api.Head, was, now []api.Ent) []byte {
	t.Helper()
	p, e := packet.Seal(h, was, now)
	if e != api.OK {
		t.Fatalf("Seal(%v) = %d", h, e)
	}
	return p
}

func connectOf(t *testing.T, client byte, epoch uint32) []byte {
	t.Helper()
	return frameOf(t, api.Head{Kind: api.Connect, Client: client, Epoch: epoch}, nil, nil)
}

func resetOf(t *testing.T, client byte, epoch uint32) []byte {
	t.Helper()
	return frameOf(t, api.Head{Kind: api.Reset, Client: client, Epoch: epoch}, nil, nil)
}

func ackOf(t *testing.T, client byte, epoch, tick uint32) []byte {
	t.Helper()
	return frameOf(t, api.Head{Kind: api.Ack, Client: client, Epoch: epoch, Tick: tick}, nil, nil)
}

// seat is a session of the model.
type seat struct {
	to      *lane.Lane
	region  api.Region
	follows bool
	whom    api.ID
	radius  int
}

// model is a server after the document's words: it asks every entity, and needs no cells.
type model struct {
	c      host.Config
	w      *world.World
	seats  map[int]*seat
	epochs map[int]uint32
}

func (m *model) region(client int) api.Region {
	x := m.seats[client]
	switch {
	case x == nil:
		return api.Region{}
	case !x.follows:
		return x.region
	}
	ent, _ := m.w.Ent(x.whom)
	if len(ent.Comps) == 0 || ent.Comps[0].Kind != api.Pos {
		return api.Region{}
	}
	return view.Around(ent.Comps[0].F[0], ent.Comps[0].F[1], x.radius)
}

func (m *model) step() ([]api.Out, []api.Result, api.Errno) {
	results, e := m.w.Step()
	if e != api.OK {
		return nil, nil, e
	}
	var out []api.Out
	for client := range api.MaxClients {
		if x := m.seats[client]; x != nil {
			if p, e := x.to.Send(m.w.Tick(), snap.Direct(m.w, m.region(client))); e == api.OK {
				out = append(out, api.Out{To: client, Frame: p})
			}
		}
	}
	return out, results, api.OK
}

func (m *model) receive(p []byte) api.Errno {
	h, _, e := packet.Open(p, nil)
	if e != api.OK {
		return e
	}
	client := int(h.Client)
	x := m.seats[client]
	switch h.Kind {
	case api.Full, api.Step:
		return api.ErrForm
	case api.Connect:
		if h.Epoch <= m.epochs[client] {
			return api.ErrStale
		}
		if x == nil && len(m.seats) >= m.c.Room {
			return api.ErrFull
		}
		to, _ := lane.New(h.Client, h.Epoch, m.c.K, m.c.Budget)
		m.seats[client], m.epochs[client] = &seat{to: to}, h.Epoch
		return api.OK
	}
	switch {
	case x == nil:
		return api.ErrNone
	case h.Epoch != m.epochs[client]:
		return api.ErrEpoch
	case h.Kind == api.Ack:
		return x.to.Ack(h.Tick)
	}
	delete(m.seats, client)
	return api.OK
}

func noClient(client int) bool { return client < 0 || client > 15 }

func (m *model) look(client int, r api.Region) api.Errno {
	switch {
	case noClient(client) || view.Check(r) != api.OK:
		return api.ErrArg
	case m.seats[client] == nil:
		return api.ErrNone
	}
	m.seats[client].region, m.seats[client].follows = r, false
	return api.OK
}

func (m *model) follow(client int, id api.ID, radius int) api.Errno {
	switch {
	case noClient(client) || radius < 0 || radius > 8:
		return api.ErrArg
	case m.seats[client] == nil:
		return api.ErrNone
	case !m.w.Live(id):
		return api.ErrDead
	}
	x := m.seats[client]
	x.follows, x.whom, x.radius = true, id, radius
	return api.OK
}

func (m *model) kick(client int) ([]byte, api.Errno) {
	switch {
	case noClient(client):
		return nil, api.ErrArg
	case m.seats[client] == nil:
		return nil, api.ErrNone
	}
	delete(m.seats, client)
	return packet.Seal(api.Head{Kind: api.Reset, Client: byte(client), Epoch: m.epochs[client]}, nil, nil)
}

// pair is a server and its model, which are told the same.
type pair struct {
	t *testing.T
	s *host.Server
	m *model
}

func mustNew(t *testing.T, c host.Config) *pair {
	t.Helper()
	s, e := host.New(c)
	if s == nil || e != api.OK {
		t.Fatalf("New(%v) = %v, %d", c, s, e)
	}
	w, _ := world.New(c.Slots, c.Gen, c.Tick)
	x := &pair{t, s, &model{c, w, map[int]*seat{}, map[int]uint32{}}}
	x.same()
	return x
}

// plain is a server without entities at the tick 0, that may send all that can be sent.
func plain() host.Config {
	return host.Config{Slots: 100, Gen: 1, Room: 16, K: 4, Budget: api.MaxBody + 4}
}

// same tells that the server tells what its model does.
func (x *pair) same() {
	x.t.Helper()
	var clients []int
	for client := -2; client < 18; client++ {
		at := x.m.seats[client]
		var to *lane.Lane
		if at != nil {
			clients, to = append(clients, client), at.to
		}
		if n := x.s.Epoch(client); n != x.m.epochs[client] {
			x.t.Fatalf("Epoch(%d) = %d, not %d", client, n, x.m.epochs[client])
		}
		r := x.s.Region(client)
		if r != x.m.region(client) {
			x.t.Fatalf("Region(%d) = %v, not %v", client, r, x.m.region(client))
		}
		tick, ok := x.s.Base(client)
		if want, wantOK := to.Base(); tick != want || ok != wantOK {
			x.t.Fatalf("Base(%d) = %d, %v, not %d, %v", client, tick, ok, want, wantOK)
		}
		if l := x.s.Held(client); !slices.Equal(l, to.Held()) {
			x.t.Fatalf("Held(%d) = %v, not %v", client, l, to.Held())
		}
		if l, want := x.s.Project(client), snap.Direct(x.m.w, x.m.region(client)); !snap.Same(l, want) {
			x.t.Fatalf("Project(%d) = %v, not %v", client, l, want)
		}
	}
	if l := x.s.Sessions(); !slices.Equal(l, clients) {
		x.t.Fatalf("Sessions() = %v, not %v", l, clients)
	}
	if n := x.s.Tick(); n != x.m.w.Tick() {
		x.t.Fatalf("Tick() = %d, not %d", n, x.m.w.Tick())
	}
	if l := x.s.List(); !snap.Same(l, x.m.w.List()) {
		x.t.Fatalf("List() = %v, not %v", l, x.m.w.List())
	}
}

func (x *pair) push(o api.Order) api.Errno {
	x.t.Helper()
	e, want := x.s.Push(o), x.m.w.Push(o)
	if e != want {
		x.t.Fatalf("Push(%v) = %d, not %d", o, e, want)
	}
	x.same()
	return e
}

func sameOut(a, b api.Out) bool { return a.To == b.To && bytes.Equal(a.Frame, b.Frame) }

// step is what both answer.
func (x *pair) step() ([]api.Out, []api.Result, api.Errno) {
	x.t.Helper()
	out, results, e := x.s.Step()
	wantOut, wantResults, want := x.m.step()
	if e != want || !slices.EqualFunc(out, wantOut, sameOut) || !slices.Equal(results, wantResults) {
		x.t.Fatalf("Step() = %v, %v, %d, not %v, %v, %d", out, results, e, wantOut, wantResults, want)
	}
	x.same()
	return out, results, e
}

func (x *pair) receive(p []byte) api.Errno {
	x.t.Helper()
	e, want := x.s.Receive(p), x.m.receive(p)
	if e != want {
		x.t.Fatalf("Receive(%x) = %d, not %d", p, e, want)
	}
	x.same()
	return e
}

func (x *pair) mustReceive(p []byte, want api.Errno) {
	x.t.Helper()
	if e := x.receive(p); e != want {
		h, _ := packet.Peek(p)
		x.t.Fatalf("Receive(%v) = %d, not %d", h, e, want)
	}
}

func (x *pair) mustConnect(client byte, epoch uint32) {
	x.t.Helper()
	x.mustReceive(connectOf(x.t, client, epoch), api.OK)
}

func (x *pair) mustLook(client int, r api.Region, want api.Errno) {
	x.t.Helper()
	if e, f := x.s.Look(client, r), x.m.look(client, r); e != want || e != f {
		x.t.Fatalf("Look(%d, %v) = %d, not %d (%d)", client, r, e, want, f)
	}
	x.same()
}

func (x *pair) mustFollow(client int, id api.ID, radius int, want api.Errno) {
	x.t.Helper()
	if e, f := x.s.Follow(client, id, radius), x.m.follow(client, id, radius); e != want || e != f {
		x.t.Fatalf("Follow(%d, %d, %d) = %d, not %d (%d)", client, id, radius, e, want, f)
	}
	x.same()
}

func (x *pair) mustKick(client int, want api.Errno) []byte {
	x.t.Helper()
	p, e := x.s.Kick(client)
	q, f := x.m.kick(client)
	if e != want || e != f || !bytes.Equal(p, q) {
		x.t.Fatalf("Kick(%d) = %x, %d, not %x, %d", client, p, e, q, want)
	}
	x.same()
	return p
}

// mustStep lets a tick go by in which these orders are done, all of which must succeed, and answers what is sent.
func (x *pair) mustStep(l ...api.Order) []api.Out {
	x.t.Helper()
	for _, o := range l {
		if e := x.push(o); e != api.OK {
			x.t.Fatalf("Push(%v) = %d", o, e)
		}
	}
	out, results, e := x.step()
	if e != api.OK || len(results) != len(l) {
		x.t.Fatalf("Step() = %v, %d", results, e)
	}
	for i, r := range results {
		if r.E != api.OK {
			x.t.Fatalf("order %d: %v", i, r)
		}
	}
	return out
}

// mustTell tells that this is the frame of that head with that snapshot, of a Step behind was.
func mustTell(t *testing.T, p []byte, want api.Head, was, now []api.Ent) {
	t.Helper()
	h, l, e := packet.Open(p, was)
	if h != want || !snap.Same(l, now) || e != api.OK {
		t.Fatalf("what is sent is %v, %v, %d, not %v, %v", h, l, e, want, now)
	}
}

// mustSendTo tells to whom something was sent.
func mustSendTo(t *testing.T, out []api.Out, clients ...int) {
	t.Helper()
	var l []int
	for _, o := range out {
		l = append(l, o.To)
	}
	if !slices.Equal(l, clients) {
		t.Fatalf("sent to %v, not %v", l, clients)
	}
}
