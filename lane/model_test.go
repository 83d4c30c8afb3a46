package lane_test

import (
	"bytes"
	"slices"
	"testing"

	"pinnace/api"
	"pinnace/lane"
	"pinnace/packet"
	"pinnace/snap"
)

// dice throws the same numbers in every run.
type dice uint64

func (d *dice) throw(n int) int {
	*d = *d*6364136223846793005 + 1442695040888963407
	return int(uint64(*d) >> 33 % uint64(n))
}

func comp(kind byte, f ...int32) api.Comp {
	c := api.Comp{Kind: kind}
	copy(c.F[:], f)
	return c
}

func pos(x, y int32) api.Comp { return comp(api.Pos, x, y) }

func vel(dx, dy int32) api.Comp { return comp(api.Vel, dx, dy) }

func life(left int32) api.Comp { return comp(api.Life, left) }

func body(shape, hp, size int32) api.Comp { return comp(api.Body, shape, hp, size) }

func tag(team, color, flags int32) api.Comp { return comp(api.Tag, team, color, flags) }

func breeds(every, left, shape int32) api.Comp { return comp(api.Spawn, every, left, shape) }

func ent(id api.ID, l ...api.Comp) api.Ent { return api.Ent{ID: id, Comps: l} }

func list(l ...api.Ent) []api.Ent { return l }

// every is a component of each kind that is told, and other another one of each.
func every() []api.Comp {
	return []api.Comp{pos(1, -2), vel(3, -4), life(5), body(6, 7, 8), tag(1, 2, 3)}
}

func other() []api.Comp {
	return []api.Comp{pos(1, -300), vel(-3, -4), life(4000), body(6, 7, 9), tag(1, 200, 3)}
}

// crowd is n entities side by side from that number on, with nothing.
func crowd(from api.ID, n int) []api.Ent {
	var l []api.Ent
	for i := range n {
		l = append(l, ent(from+api.ID(i)))
	}
	return l
}

// some is what a test tells of a list that may be long.
func some[T any](l []T) []T { return l[:min(len(l), 50)] }

// shot is a snapshot and the tick at which it was sent.
type shot struct {
	tick uint32
	now  []api.Ent
}

// model is a lane after the document's words, with no more than lists and packets.
type model struct {
	client    byte
	epoch     uint32
	k, budget int
	held      []shot
	// What the next tick must be above, at first of both -1.
	sent, acked int64
}

func (m *model) base() (shot, bool) {
	i := slices.IndexFunc(m.held, func(x shot) bool { return int64(x.tick) == m.acked })
	if i < 0 {
		return shot{}, false
	}
	return m.held[i], true
}

func (m *model) send(tick uint32, now []api.Ent) ([]byte, api.Errno) {
	if int64(tick) <= m.sent {
		return nil, api.ErrStale
	}
	if e := snap.Form(now); e != api.OK {
		return nil, e
	}
	m.sent = int64(tick)
	h := api.Head{Kind: api.Full, Client: m.client, Epoch: m.epoch, Tick: tick}
	p, e := packet.Seal(h, nil, now)
	if was, ok := m.base(); ok {
		h.Kind, h.Base = api.Step, was.tick
		if q, f := packet.Seal(h, was.now, now); f == api.OK && len(q) <= m.budget {
			p, e = q, f
		}
	}
	if e != api.OK || len(p) > m.budget {
		return nil, api.ErrLong
	}
	m.held = append(m.held, shot{tick, snap.Copy(now)})
	m.held = m.held[max(0, len(m.held)-m.k):]
	return p, api.OK
}

func (m *model) ack(tick uint32) api.Errno {
	if int64(tick) <= m.acked {
		return api.ErrStale
	}
	i := slices.IndexFunc(m.held, func(x shot) bool { return x.tick == tick })
	if i < 0 {
		return api.ErrNone
	}
	m.acked, m.held = int64(tick), m.held[i:]
	return api.OK
}

// pair is a lane and its model, which are told the same.
type pair struct {
	t *testing.T
	l *lane.Lane
	m *model
}

func mustNew(t *testing.T, client byte, epoch uint32, k, budget int) *pair {
	t.Helper()
	l, e := lane.New(client, epoch, k, budget)
	if l == nil || e != api.OK {
		t.Fatalf("New(%d, %d, %d, %d) = %v, %d", client, epoch, k, budget, l, e)
	}
	x := &pair{t, l, &model{client: client, epoch: epoch, k: k, budget: budget, sent: -1, acked: -1}}
	x.look()
	return x
}

// plain is one that holds k and may send all that can be sent.
func plain(t *testing.T, k int) *pair {
	t.Helper()
	return mustNew(t, 3, 7, k, api.MaxBody+4)
}

// look tells that the lane tells what its model does.
func (x *pair) look() {
	x.t.Helper()
	was, wantOK := x.m.base()
	if base, ok := x.l.Base(); base != was.tick || ok != wantOK {
		x.t.Fatalf("Base() = %d, %v, not %d, %v", base, ok, was.tick, wantOK)
	}
	var ticks []uint32
	for _, y := range x.m.held {
		ticks = append(ticks, y.tick)
	}
	if l := x.l.Held(); !slices.Equal(l, ticks) {
		x.t.Fatalf("Held() = %v, not %v", l, ticks)
	}
	if n := x.l.Epoch(); n != x.m.epoch {
		x.t.Fatalf("Epoch() = %d, not %d", n, x.m.epoch)
	}
}

// send is what both answer.
func (x *pair) send(tick uint32, now []api.Ent) ([]byte, api.Errno) {
	x.t.Helper()
	p, e := x.l.Send(tick, now)
	want, wantE := x.m.send(tick, now)
	if e != wantE || !bytes.Equal(p, want) {
		x.t.Fatalf("Send(%d, %v) = %x, %d, not %x, %d", tick, some(now), some(p), e, some(want), wantE)
	}
	x.look()
	return p, e
}

// mustSend tells what is sent: of the base 0 for none a Full, else a Step.
func (x *pair) mustSend(kind byte, tick, base uint32, was, now []api.Ent) []byte {
	x.t.Helper()
	p, e := x.send(tick, now)
	if e != api.OK {
		x.t.Fatalf("Send(%d, %v) = %d", tick, some(now), e)
	}
	want := api.Head{Kind: kind, Client: x.m.client, Epoch: x.m.epoch, Tick: tick, Base: base}
	h, l, e := packet.Open(p, was)
	if h != want || !snap.Same(l, now) || e != api.OK {
		x.t.Fatalf("what is sent is %v, %v, %d, not %v, %v", h, some(l), e, want, some(now))
	}
	if len(p) > x.m.budget {
		x.t.Fatalf("%d bytes are sent, by a budget of %d", len(p), x.m.budget)
	}
	return p
}

func (x *pair) mustSendFull(tick uint32, now []api.Ent) []byte {
	x.t.Helper()
	return x.mustSend(api.Full, tick, 0, nil, now)
}

func (x *pair) mustSendStep(tick, base uint32, was, now []api.Ent) []byte {
	x.t.Helper()
	return x.mustSend(api.Step, tick, base, was, now)
}

func (x *pair) mustNotSend(tick uint32, now []api.Ent, want api.Errno) {
	x.t.Helper()
	if p, e := x.send(tick, now); e != want || len(p) != 0 {
		x.t.Fatalf("Send(%d, %v) = %x, %d, not %d", tick, some(now), some(p), e, want)
	}
}

func (x *pair) mustAck(tick uint32, want api.Errno) {
	x.t.Helper()
	if e, wantE := x.l.Ack(tick), x.m.ack(tick); e != want || e != wantE {
		x.t.Fatalf("Ack(%d) = %d, not %d (%d)", tick, e, want, wantE)
	}
	x.look()
}

func (x *pair) mustHold(ticks ...uint32) {
	x.t.Helper()
	if l := x.l.Held(); !slices.Equal(l, ticks) {
		x.t.Fatalf("Held() = %v, not %v", l, ticks)
	}
}

func (x *pair) mustBase(want uint32) {
	x.t.Helper()
	if tick, ok := x.l.Base(); tick != want || !ok {
		x.t.Fatalf("Base() = %d, %v, not %d", tick, ok, want)
	}
}

func (x *pair) mustHaveNoBase() {
	x.t.Helper()
	if tick, ok := x.l.Base(); tick != 0 || ok {
		x.t.Fatalf("Base() = %d, %v", tick, ok)
	}
}
