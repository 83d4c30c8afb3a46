package guest_test

import (
	"bytes"
	"slices"
	"testing"

	"pinnace/api"
	"pinnace/frame"
	"pinnace/guest"
	"pinnace/packet"
	"pinnace/snap"
)

// dice throws the same numbers in every run.
type dice uint64

func (d *dice) throw(n int) int {
	*d = *d*6364136223846793005 + 1442695040888963407
	return int(uint64(*d) >> 33 % uint64(n))
}

func comp(kind byte, f ...int32) api.Comp {
	c := api.Comp{Kind: kind}
	copy(c.F[:], f)
	return c
}

func pos(x, y int32) api.Comp { return comp(api.Pos, x, y) }

func vel(dx, dy int32) api.Comp { return comp(api.Vel, dx, dy) }

func life(left int32) api.Comp { return comp(api.Life, left) }

func body(shape, hp, size int32) api.Comp { return comp(api.Body, shape, hp, size) }

func tag(team, color, flags int32) api.Comp { return comp(api.Tag, team, color, flags) }

func ent(id api.ID, l ...api.Comp) api.Ent { return api.Ent{ID: id, Comps: l} }

func list(l ...api.Ent) []api.Ent { return l }

// every is a component of each kind that is told, and other another one of each.
func every() []api.Comp {
	return []api.Comp{pos(1, -2), vel(3, -4), life(5), body(6, 7, 8), tag(1, 2, 3)}
}

func other() []api.Comp {
	return []api.Comp{pos(1, -300), vel(-3, -4), life(4000), body(6, 7, 9), tag(1, 200, 3)}
}

// crowd is n entities side by side from that number on, with nothing.
func crowd(from api.ID, n int) []api.Ent {
	var l []api.Ent
	for i := range n {
		l = append(l, ent(from+api.ID(i)))
	}
	return l
}

// some is what a test tells of a list that may be long.
func some[T any](l []T) []T { return l[:min(len(l), 50)] }

// frameOf is the frame of a head that must be right.
func frameOf(t *testing.T, h api.Head, was, now []api.Ent) []byte {
	t.Helper()
	p, e := packet.Seal(h, was, now)
	if e != api.OK {
		t.Fatalf("Seal(%v) = %d", h, e)
	}
	return p
}

// spoilt is a frame of which one bit is turned.
func spoilt(p []byte) []byte {
	q := bytes.Clone(p)
	q[len(q)/2] ^= 4
	return q
}

// longer is the frame of the same body with a byte more.
func longer(t *testing.T, p []byte) []byte {
	t.Helper()
	q, e := frame.Seal(append(bytes.Clone(p[:len(p)-4]), 0))
	if e != api.OK {
		t.Fatal(e)
	}
	return q
}

// shot is a snapshot and the tick at which it was taken.
type shot struct {
	tick uint32
	now  []api.Ent
}

// own is an entity of a model's own.
type own struct {
	local api.ID
	comps []api.Comp
}

// model is a client after the document's words, with lists and maps alone.
type model struct {
	client byte
	n, k   int
	on     bool
	epoch  uint32
	gens   []int // of each slot that was in use, its last generation
	freed  []int
	known  map[api.ID]own // by net IDs
	held   []shot
}

func (m *model) nets() []api.ID {
	var l []api.ID
	for net := range m.known {
		l = append(l, net)
	}
	slices.Sort(l)
	return l
}

func (m *model) despawn(net api.ID) {
	m.freed = append(m.freed, int(m.known[net].local%1024))
	delete(m.known, net)
}

func (m *model) spawn(x api.Ent) {
	slot := len(m.gens)
	if end := len(m.freed) - 1; end >= 0 {
		slot, m.freed = m.freed[end], m.freed[:end]
	} else {
		m.gens = append(m.gens, 0)
	}
	m.gens[slot]++
	m.known[x.ID] = own{api.ID(1024*m.gens[slot] + slot), slices.Clone(x.Comps)}
}

func (m *model) empty() {
	for _, net := range m.nets() {
		m.despawn(net)
	}
	m.held = nil
}

func (m *model) frame(kind byte, tick uint32) []byte {
	p, _ := packet.Seal(api.Head{Kind: kind, Client: m.client, Epoch: m.epoch, Tick: tick}, nil, nil)
	return p
}

func (m *model) connect() ([]byte, api.Errno) {
	if m.epoch == top {
		return nil, api.ErrEnd
	}
	m.empty()
	m.epoch, m.on = m.epoch+1, true
	return m.frame(api.Connect, 0), api.OK
}

func (m *model) again() ([]byte, api.Errno) {
	if !m.on || len(m.held) > 0 {
		return nil, api.ErrState
	}
	return m.frame(api.Connect, 0), api.OK
}

func (m *model) leave() ([]byte, api.Errno) {
	if !m.on {
		return nil, api.ErrState
	}
	m.empty()
	m.on = false
	return m.frame(api.Reset, 0), api.OK
}

func (m *model) receive(p []byte) ([]byte, api.Errno) {
	h, e := packet.Peek(p)
	switch {
	case e != api.OK:
		return nil, e
	case h.Client != m.client:
		return nil, api.ErrNone
	case !m.on:
		return nil, api.ErrState
	case h.Epoch != m.epoch:
		return nil, api.ErrEpoch
	case h.Kind == api.Connect || h.Kind == api.Ack:
		return nil, api.ErrForm
	case h.Kind == api.Reset:
		if _, _, e := packet.Open(p, nil); e != api.OK {
			return nil, api.ErrForm
		}
		m.leave()
		return nil, api.OK
	}
	if end := len(m.held) - 1; end >= 0 && h.Tick <= m.held[end].tick {
		return nil, api.ErrStale
	}
	var was []api.Ent
	if h.Kind == api.Step {
		i := slices.IndexFunc(m.held, func(x shot) bool { return x.tick == h.Base })
		if i < 0 {
			return nil, api.ErrBase
		}
		was = m.held[i].now
	}
	_, now, e := packet.Open(p, was)
	switch {
	case e != api.OK:
		return nil, api.ErrForm
	case len(now) > m.n:
		return nil, api.ErrFull
	}
	m.take(now)
	m.held = append(m.held, shot{h.Tick, snap.Copy(now)})
	m.held = m.held[max(0, len(m.held)-m.k):]
	return m.frame(api.Ack, h.Tick), api.OK
}

func (m *model) take(now []api.Ent) {
	for _, net := range m.nets() {
		i := snap.Find(now, net)
		if i < 0 {
			m.despawn(net)
			continue
		}
		m.known[net] = own{m.known[net].local, slices.Clone(now[i].Comps)}
	}
	for _, x := range now {
		if _, ok := m.known[x.ID]; !ok {
			m.spawn(x)
		}
	}
}

// pair is a client and its model, which are told the same.
type pair struct {
	t *testing.T
	c *guest.Client
	m *model
}

func mustNew(t *testing.T, client byte, n, k int) *pair {
	t.Helper()
	c, e := guest.New(client, n, k)
	if c == nil || e != api.OK {
		t.Fatalf("New(%d, %d, %d) = %v, %d", client, n, k, c, e)
	}
	x := &pair{t, c, &model{client: client, n: n, k: k, known: map[api.ID]own{}}}
	x.same()
	return x
}

// on is a client 3 that has connected once.
func on(t *testing.T, n, k int) *pair {
	t.Helper()
	x := mustNew(t, 3, n, k)
	x.mustConnect()
	return x
}

// same tells that the client tells what its model does.
func (x *pair) same() {
	x.t.Helper()
	if x.c.On() != x.m.on || x.c.Epoch() != x.m.epoch {
		x.t.Fatalf("On() = %v, Epoch() = %d, not %v, %d", x.c.On(), x.c.Epoch(), x.m.on, x.m.epoch)
	}
	var ticks []uint32
	for _, y := range x.m.held {
		ticks = append(ticks, y.tick)
	}
	if l := x.c.Held(); !slices.Equal(l, ticks) {
		x.t.Fatalf("Held() = %v, not %v", l, ticks)
	}
	var last shot
	if len(x.m.held) > 0 {
		last = x.m.held[len(x.m.held)-1]
	}
	if tick, ok := x.c.Taken(); tick != last.tick || ok != (len(x.m.held) > 0) {
		x.t.Fatalf("Taken() = %d, %v, not %d", tick, ok, last.tick)
	}
	if l := x.c.Read(); !snap.Same(l, last.now) {
		x.t.Fatalf("Read() = %v, not %v", some(l), some(last.now))
	}
	x.sameWorld()
}

// sameWorld is the part of same that tells of the numbers.
func (x *pair) sameWorld() {
	x.t.Helper()
	var links []guest.Link
	var ents []api.Ent
	for _, net := range x.m.nets() {
		y := x.m.known[net]
		links, ents = append(links, guest.Link{Net: net, Local: y.local}), append(ents, ent(y.local, y.comps...))
		if local, ok := x.c.Local(net); local != y.local || !ok {
			x.t.Fatalf("Local(%d) = %d, %v, not %d", net, local, ok, y.local)
		}
		if _, ok := x.m.known[net+1]; !ok {
			if local, ok := x.c.Local(net + 1); local != 0 || ok {
				x.t.Fatalf("Local(%d) = %d, %v", net+1, local, ok)
			}
		}
	}
	if l := x.c.Map(); !slices.Equal(l, links) {
		x.t.Fatalf("Map() = %v, not %v", some(l), some(links))
	}
	slices.SortFunc(ents, func(a, b api.Ent) int { return int(a.ID%1024) - int(b.ID%1024) })
	if l := x.c.World(); !snap.Same(l, ents) {
		x.t.Fatalf("World() = %v, not %v", some(l), some(ents))
	}
}

// agree tells that both answered the same, and this.
func (x *pair) agree(what string, p []byte, e api.Errno, q []byte, f, want api.Errno) []byte {
	x.t.Helper()
	if e != want || e != f || !bytes.Equal(p, q) {
		x.t.Fatalf("%s = %x, %d, not %x, %d, %d", what, p, e, q, f, want)
	}
	x.same()
	return p
}

func (x *pair) mustConnect() []byte {
	x.t.Helper()
	p, e := x.c.Connect()
	q, f := x.m.connect()
	return x.agree("Connect()", p, e, q, f, api.OK)
}

func (x *pair) mustAgain(want api.Errno) []byte {
	x.t.Helper()
	p, e := x.c.Again()
	q, f := x.m.again()
	return x.agree("Again()", p, e, q, f, want)
}

func (x *pair) mustLeave(want api.Errno) []byte {
	x.t.Helper()
	p, e := x.c.Leave()
	q, f := x.m.leave()
	return x.agree("Leave()", p, e, q, f, want)
}

// receive is what both answer.
func (x *pair) receive(p []byte) ([]byte, api.Errno) {
	x.t.Helper()
	a, e := x.c.Receive(p)
	b, f := x.m.receive(p)
	x.agree("Receive", a, e, b, f, f)
	return a, e
}

// mustReceive tells what is answered: of OK to what tells a snapshot an Ack of its tick, else nothing.
func (x *pair) mustReceive(p []byte, want api.Errno) {
	x.t.Helper()
	h, _ := packet.Peek(p)
	a, e := x.receive(p)
	if e != want {
		x.t.Fatalf("Receive(%v) = %x, %d, not %d", h, a, e, want)
	}
	if e != api.OK || h.Kind == api.Reset {
		if len(a) != 0 {
			x.t.Fatalf("Receive(%v) = %x", h, a)
		}
		return
	}
	mustBe(x.t, a, api.Head{Kind: api.Ack, Client: h.Client, Epoch: h.Epoch, Tick: h.Tick})
}

// mustBe tells that this is a frame of that head with nothing behind it.
func mustBe(t *testing.T, p []byte, want api.Head) {
	t.Helper()
	if h, l, e := packet.Open(p, nil); h != want || len(l) != 0 || e != api.OK {
		t.Fatalf("%x is %v, %v, %d, not %v", p, h, l, e, want)
	}
}

func (x *pair) full(tick uint32, now ...api.Ent) []byte {
	x.t.Helper()
	return frameOf(x.t, api.Head{Kind: api.Full, Client: x.m.client, Epoch: x.m.epoch, Tick: tick}, nil, now)
}

func (x *pair) step(tick, base uint32, was, now []api.Ent) []byte {
	x.t.Helper()
	return frameOf(x.t, api.Head{Kind: api.Step, Client: x.m.client, Epoch: x.m.epoch, Tick: tick, Base: base}, was, now)
}

func (x *pair) bare(kind byte, client byte, epoch, tick uint32) []byte {
	x.t.Helper()
	return frameOf(x.t, api.Head{Kind: kind, Client: client, Epoch: epoch, Tick: tick}, nil, nil)
}

func (x *pair) mustTake(tick uint32, now ...api.Ent) {
	x.t.Helper()
	x.mustReceive(x.full(tick, now...), api.OK)
}

// mustKnow tells of the links, net and local in turns.
func (x *pair) mustKnow(ids ...api.ID) {
	x.t.Helper()
	var l []guest.Link
	for i := 0; i < len(ids); i += 2 {
		l = append(l, guest.Link{Net: ids[i], Local: ids[i+1]})
	}
	if got := x.c.Map(); !slices.Equal(got, l) {
		x.t.Fatalf("Map() = %v, not %v", got, l)
	}
}

func (x *pair) mustHave(want ...api.Ent) {
	x.t.Helper()
	if got := x.c.World(); !snap.Same(got, want) {
		x.t.Fatalf("World() = %v, not %v", got, want)
	}
}

func (x *pair) mustHold(ticks ...uint32) {
	x.t.Helper()
	if got := x.c.Held(); !slices.Equal(got, ticks) {
		x.t.Fatalf("Held() = %v, not %v", got, ticks)
	}
}
