package yard_test

import (
	"bytes"
	"slices"
	"testing"

	"pinnace/api"
	"pinnace/guest"
	"pinnace/host"
	"pinnace/net"
	"pinnace/packet"
	"pinnace/snap"
	"pinnace/yard"
)

// dice throws the same numbers in every run.
type dice uint64

func (d *dice) throw(n int) int {
	*d = *d*6364136223846793005 + 1442695040888963407
	return int(uint64(*d) >> 33 % uint64(n))
}

func comp(kind byte, f ...int32) api.Comp {
	c := api.Comp{Kind: kind}
	copy(c.F[:], f)
	return c
}

func pos(x, y int32) api.Comp { return comp(api.Pos, x, y) }

func vel(dx, dy int32) api.Comp { return comp(api.Vel, dx, dy) }

func life(left int32) api.Comp { return comp(api.Life, left) }

func spawn(l ...api.Comp) yard.Step {
	return yard.Step{Kind: yard.Order, Order: api.Order{Do: api.DoSpawn, Comps: l}}
}

func despawn(id api.ID) yard.Step {
	return yard.Step{Kind: yard.Order, Order: api.Order{Do: api.DoDespawn, ID: id}}
}

// told is when a client's session was told something.
type told struct {
	client      int
	epoch, tick uint32
}

// datagram is one under way, and whether its bits were turned.
type datagram struct {
	to     int
	frame  []byte
	turned bool
}

// model is a yard after the document's words: a server and clients of its own, and a list for what is under way.
type model struct {
	c       yard.Config
	s       *host.Server
	guests  []*guest.Client
	bag     []datagram
	results []api.Result
	shown   map[told][]api.Ent // what each session was to be told, tick by tick
	kinds   map[int][]byte     // what each client was sent since the last Calm began, tick by tick; 0: nothing
	cramped map[int]bool       // for whom something had no room since then
	taken   map[byte]int       // how many packets of each kind came and were right
	refused map[api.Errno]int
	lost    int
}

func newModel(t *testing.T, c yard.Config) *model {
	t.Helper()
	m := &model{c: c, shown: map[told][]api.Ent{}, taken: map[byte]int{}, refused: map[api.Errno]int{}}
	m.begin()
	var e api.Errno
	if m.s, e = host.New(c.Host); e != api.OK {
		t.Fatal(c, e)
	}
	for client := range byte(16) {
		g, e := guest.New(client, c.Slots, c.Host.K)
		if e != api.OK {
			t.Fatal(c, e)
		}
		m.guests = append(m.guests, g)
	}
	return m
}

// begin forgets what was sent before.
func (m *model) begin() { m.kinds, m.cramped = map[int][]byte{}, map[int]bool{} }

func (m *model) send(to int, p []byte) bool {
	if len(m.bag) == m.c.Bag {
		m.lost++
		return false
	}
	m.bag = append(m.bag, datagram{to: to, frame: bytes.Clone(p)})
	return true
}

func (m *model) tick() api.Errno {
	out, results, e := m.s.Step()
	if e != api.OK {
		return e
	}
	m.results = results
	for _, client := range m.s.Sessions() {
		m.shown[told{client, m.s.Epoch(client), m.s.Tick()}] = m.s.Project(client)
		m.kinds[client] = append(m.kinds[client], 0)
	}
	for _, o := range out {
		if !m.send(o.To, o.Frame) {
			m.cramped[o.To] = true
		}
		h, _ := packet.Peek(o.Frame)
		m.kinds[o.To][len(m.kinds[o.To])-1] = h.Kind
	}
	return api.OK
}

// fits tells whether what the session was told at the last tick had room, as a whole and from its base.
func (m *model) fits(client int, base uint32, based bool) bool {
	h := api.Head{Kind: api.Full, Client: byte(client), Epoch: m.s.Epoch(client), Tick: m.s.Tick()}
	now := m.shown[told{client, h.Epoch, h.Tick}]
	p, e := packet.Seal(h, nil, now)
	if e != api.OK || len(p) > m.c.Host.Budget || len(now) > m.c.Slots {
		return false
	}
	if !based {
		return true
	}
	h.Kind, h.Base = api.Step, base
	p, e = packet.Seal(h, m.shown[told{client, h.Epoch, base}], now)
	return e == api.OK && len(p) <= m.c.Host.Budget
}

func (m *model) receive(to int, p []byte) api.Errno {
	h, _ := packet.Peek(p)
	var e api.Errno
	switch {
	case to == -1:
		e = m.s.Receive(p)
	case to >= 0 && to < 16:
		var answer []byte
		answer, e = m.guests[to].Receive(p)
		if e == api.OK && h.Kind != api.Reset {
			m.send(-1, answer)
		}
	default:
		return api.OK
	}
	if e == api.OK {
		m.taken[h.Kind]++
	} else {
		m.refused[e]++
	}
	return e
}

func (m *model) take(i int) (datagram, bool) {
	if i < 0 || i >= len(m.bag) {
		return datagram{}, false
	}
	x := m.bag[i]
	m.bag = slices.Concat(m.bag[:i], m.bag[i+1:])
	return x, true
}

func (m *model) doCalm(n int) api.Errno {
	if n < 0 || n > 100 {
		return api.ErrArg
	}
	m.begin()
	for range n {
		if e := m.measuredTick(); e != api.OK {
			return e
		}
		for len(m.bag) > 0 {
			x, _ := m.take(0)
			m.receive(x.to, x.frame)
		}
	}
	return api.OK
}

// measuredTick is a tick of which is found out who was told more than there was room for.
func (m *model) measuredTick() api.Errno {
	bases := map[int]uint32{}
	for _, client := range m.s.Sessions() {
		if base, ok := m.s.Base(client); ok {
			bases[client] = base
		}
	}
	if e := m.tick(); e != api.OK {
		return e
	}
	for _, client := range m.s.Sessions() {
		base, based := bases[client]
		if !m.fits(client, base, based) {
			m.cramped[client] = true
		}
	}
	return api.OK
}

func (m *model) doClient(s yard.Step) api.Errno {
	if s.Client < 0 || s.Client > 15 {
		return api.ErrArg
	}
	var p []byte
	var e api.Errno
	switch g := m.guests[s.Client]; s.Kind {
	case yard.Connect:
		p, e = g.Connect()
	case yard.Again:
		p, e = g.Again()
	case yard.Leave:
		p, e = g.Leave()
	}
	if e == api.OK {
		m.send(-1, p)
	}
	return e
}

func (m *model) doBag(s yard.Step) api.Errno {
	if s.I < 0 || s.I >= len(m.bag) {
		return api.ErrNone
	}
	switch s.Kind {
	case yard.Deliver:
		x, _ := m.take(s.I)
		return m.receive(x.to, x.frame)
	case yard.Drop:
		m.take(s.I)
	case yard.Copy:
		if len(m.bag) == m.c.Bag {
			return api.ErrFull
		}
		m.bag = append(m.bag, m.bag[s.I])
	case yard.Turn:
		x := &m.bag[s.I]
		was := x.frame
		x.frame = net.Turned(was, s.At, s.Pattern)
		x.turned = x.turned || !bytes.Equal(was, x.frame)
	}
	return api.OK
}

func (m *model) do(s yard.Step) api.Errno {
	switch s.Kind {
	case yard.Order:
		return m.s.Push(s.Order)
	case yard.Tick:
		return m.tick()
	case yard.Connect, yard.Again, yard.Leave:
		return m.doClient(s)
	case yard.Kick:
		p, e := m.s.Kick(s.Client)
		if e == api.OK {
			m.send(s.Client, p)
		}
		return e
	case yard.Look:
		return m.s.Look(s.Client, s.Region)
	case yard.Follow:
		return m.s.Follow(s.Client, s.ID, s.R)
	case yard.Deliver, yard.Copy, yard.Drop, yard.Turn:
		return m.doBag(s)
	case yard.Inject:
		if s.Client < -1 || s.Client > 15 {
			return api.ErrArg
		}
		return m.receive(s.Client, s.Bytes)
	case yard.Calm:
		return m.doCalm(s.I)
	}
	return api.ErrArg
}

// pair is a yard and its model, to which the same is done.
type pair struct {
	t *testing.T
	y *yard.Yard
	m *model
}

// plain is a yard in which there is room for what a few steps need.
func plain() yard.Config {
	return yard.Config{Host: host.Config{Slots: 20, Gen: 1, Room: 16, K: 4, Budget: 900}, Slots: 20, Bag: 60}
}

func newPair(t *testing.T, c yard.Config) *pair {
	t.Helper()
	y, e := yard.New(c)
	if e != api.OK {
		t.Fatal(c, e)
	}
	p := &pair{t, y, newModel(t, c)}
	p.mustAgree()
	return p
}

// try does a step, and tells that the yard is what the model is behind it.
func (p *pair) try(s yard.Step) api.Errno {
	p.t.Helper()
	e, want := p.y.Do(s), p.m.do(s)
	if e != want {
		p.t.Fatalf("Do(%v) = %d, not %d", s, e, want)
	}
	p.mustAgree()
	return e
}

// want does a step that answers that.
func (p *pair) want(want api.Errno, s yard.Step) {
	p.t.Helper()
	if e := p.try(s); e != want {
		p.t.Fatalf("Do(%v) = %d, not %d", s, e, want)
	}
}

// do does steps that are right.
func (p *pair) do(l ...yard.Step) {
	p.t.Helper()
	for _, s := range l {
		p.want(api.OK, s)
	}
}

// refuse does a step that answers that, and changes nothing.
func (p *pair) refuse(want api.Errno, s yard.Step) {
	p.t.Helper()
	was := stateOf(p.y)
	p.want(want, s)
	if now := stateOf(p.y); !was.same(now) {
		p.t.Fatalf("Do(%v) = %d, and something has changed: %v, %v", s, want, was, now)
	}
}

// state is all that a yard tells, but what stands behind its server's and its clients' calls.
type state struct {
	bag     []api.Out
	results []api.Result
	server  serverState
	guests  []guestState
}

type serverState struct {
	tick     uint32
	list     []api.Ent
	sessions []int
	seats    []seatState
}

type seatState struct {
	epoch   uint32
	region  api.Region
	base    uint32
	based   bool
	held    []uint32
	project []api.Ent
}

type guestState struct {
	on          bool
	epoch, tick uint32
	taken       bool
	held        []uint32
	links       []guest.Link
	world, read []api.Ent
}

func serverOf(s *host.Server) serverState {
	x := serverState{tick: s.Tick(), list: s.List(), sessions: s.Sessions()}
	for client := range 16 {
		base, based := s.Base(client)
		x.seats = append(x.seats, seatState{s.Epoch(client), s.Region(client), base, based, s.Held(client), s.Project(client)})
	}
	return x
}

func guestOf(c *guest.Client) guestState {
	tick, taken := c.Taken()
	return guestState{c.On(), c.Epoch(), tick, taken, c.Held(), c.Map(), c.World(), c.Read()}
}

func stateOf(y *yard.Yard) state {
	x := state{results: y.Results(), server: serverOf(y.Host())}
	for i := range y.Bag().Len() {
		o, _ := y.Bag().Peek(i)
		x.bag = append(x.bag, o)
	}
	for client := range 16 {
		x.guests = append(x.guests, guestOf(y.Guest(client)))
	}
	return x
}

func (m *model) state() state {
	x := state{results: m.results, server: serverOf(m.s)}
	for _, o := range m.bag {
		x.bag = append(x.bag, api.Out{To: o.to, Frame: o.frame})
	}
	for _, g := range m.guests {
		x.guests = append(x.guests, guestOf(g))
	}
	return x
}

func (x seatState) same(y seatState) bool {
	return x.epoch == y.epoch && x.region == y.region && x.base == y.base && x.based == y.based &&
		slices.Equal(x.held, y.held) && snap.Same(x.project, y.project)
}

func (x serverState) same(y serverState) bool {
	return x.tick == y.tick && sameEnts(x.list, y.list) && slices.Equal(x.sessions, y.sessions) &&
		slices.EqualFunc(x.seats, y.seats, seatState.same)
}

func (x guestState) same(y guestState) bool {
	return x.on == y.on && x.epoch == y.epoch && x.tick == y.tick && x.taken == y.taken && slices.Equal(x.held, y.held) &&
		slices.Equal(x.links, y.links) && sameEnts(x.world, y.world) && sameEnts(x.read, y.read)
}

func (x state) same(y state) bool {
	sameOut := func(a, b api.Out) bool { return a.To == b.To && bytes.Equal(a.Frame, b.Frame) }
	return slices.EqualFunc(x.bag, y.bag, sameOut) && slices.Equal(x.results, y.results) && x.server.same(y.server) &&
		slices.EqualFunc(x.guests, y.guests, guestState.same)
}

func sameEnts(x, y []api.Ent) bool {
	return slices.EqualFunc(x, y, func(a, b api.Ent) bool { return a.ID == b.ID && slices.Equal(a.Comps, b.Comps) })
}

func (p *pair) mustAgree() {
	p.t.Helper()
	if got, want := stateOf(p.y), p.m.state(); !got.same(want) {
		p.t.Fatalf("the yard is %v, not %v", got, want)
	}
}
