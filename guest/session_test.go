package guest_test

import (
	"bytes"
	"testing"

	"pinnace/api"
	"pinnace/guest"
	"pinnace/host"
	"pinnace/packet"
	"pinnace/snap"
)

// A server and its clients, and between them a net that loses, doubles, delays and spoils what is under way.

// told is when a client's session was told something.
type told struct {
	client      int
	epoch, tick uint32
}

type net struct {
	t      *testing.T
	d      dice
	s      *host.Server
	guests []*guest.Client
	budget int
	bag    []api.Out
	shown  map[told][]api.Ent // what each session was to be told
	last   []told             // what each client had taken before
	links  [][]guest.Link     // and whom it knew
	seen   map[byte]int       // how many packets of each kind were taken
	wrong  int                // how many frames were refused
}

func newNet(t *testing.T, seed int) *net {
	x := &net{t: t, d: dice(seed), shown: map[told][]api.Ent{}, seen: map[byte]int{}}
	k := 1 + x.d.throw(5)
	x.budget = []int{120, 400, longest}[x.d.throw(3)]
	s, e := host.New(host.Config{Slots: 20, Gen: 1, Room: 3, K: k, Budget: x.budget})
	if e != api.OK {
		t.Fatal(e)
	}
	x.s = s
	for client := range byte(4) {
		c, e := guest.New(client, []int{20, 20, 20, 3}[client], k)
		if e != api.OK {
			t.Fatal(e)
		}
		x.guests = append(x.guests, c)
	}
	x.last, x.links = make([]told, 4), make([][]guest.Link, 4)
	return x
}

func (x *net) send(to int, p []byte, e api.Errno) {
	if e == api.OK && len(p) > 0 {
		x.bag = append(x.bag, api.Out{To: to, Frame: p})
	}
}

func (x *net) tick() {
	x.t.Helper()
	out, _, e := x.s.Step()
	if e != api.OK {
		x.t.Fatal(e)
	}
	for _, client := range x.s.Sessions() {
		x.shown[told{client, x.s.Epoch(client), x.s.Tick()}] = x.s.Project(client)
	}
	for _, o := range out {
		if len(o.Frame) > x.budget {
			x.t.Fatal("longer than the budget", len(o.Frame))
		}
		x.bag = append(x.bag, o)
	}
}

// arrive lets a datagram come to whom it goes to, and tells its kind.
func (x *net) arrive(o api.Out) (byte, api.Errno) {
	h, _ := packet.Peek(o.Frame)
	if o.To < 0 {
		return h.Kind, x.s.Receive(o.Frame)
	}
	p, e := x.guests[o.To].Receive(o.Frame)
	x.send(-1, p, e)
	return h.Kind, e
}

func (x *net) take(i int) api.Out {
	o := x.bag[i]
	x.bag = append(x.bag[:i:i], x.bag[i+1:]...)
	return o
}

func (x *net) deliver(i int) {
	kind, e := x.arrive(x.take(i))
	if e == api.OK {
		x.seen[kind]++
	} else {
		x.wrong++
	}
}

// turn spoils what is under way once.
func (x *net) turn(i int) {
	p := bytes.Clone(x.bag[i].Frame)
	at := x.d.throw(8 * len(p))
	for k := range 32 {
		if bit := at + k; bit < 8*len(p) && (k == 0 || x.d.throw(2) == 0) {
			p[bit/8] ^= 1 << (bit % 8)
		}
	}
	if _, e := packet.Peek(p); e == api.OK {
		x.t.Fatal("a spoilt frame is a frame")
	}
	x.bag[i].Frame = p
}

func (x *net) order() {
	d := &x.d
	id := api.ID(1024*(1+d.throw(3)) + d.throw(20))
	at := pos(int32(d.throw(100000)-50000), int32(d.throw(100000)-50000))
	switch d.throw(8) {
	case 0, 1, 2:
		x.s.Push(api.Order{Do: api.DoSpawn, Comps: []api.Comp{at, vel(int32(d.throw(9000)-4500), 900), life(int32(d.throw(60))), tag(1, 2, 3)}})
	case 3:
		x.s.Push(api.Order{Do: api.DoSpawn, Comps: []api.Comp{at, comp(api.Spawn, 5, 1, 2)}})
	case 4:
		x.s.Push(api.Order{Do: api.DoDespawn, ID: id})
	case 5:
		x.s.Push(api.Order{Do: api.DoSet, ID: id, Comps: []api.Comp{at}})
	case 6:
		x.s.Push(api.Order{Do: api.DoRemove, ID: id, Kind: byte(d.throw(6))})
	default:
		x.s.Push(api.Order{Do: api.DoAdd, ID: id, Comps: []api.Comp{body(1, 2, 3)}})
	}
}

// gaze lets a session look anywhere, or follow anybody.
func (x *net) gaze(client int) {
	if l := x.s.List(); len(l) > 0 && x.d.throw(3) == 0 {
		x.s.Follow(client, l[x.d.throw(len(l))].ID, x.d.throw(4))
		return
	}
	x.s.Look(client, api.Region{On: x.d.throw(9) > 0, CX: x.d.throw(4) - 2, CY: x.d.throw(4) - 2, R: x.d.throw(4)})
}

func (x *net) greet(client int) {
	c := x.guests[client]
	switch x.d.throw(6) {
	case 0, 1:
		p, e := c.Connect()
		x.send(-1, p, e)
	case 2:
		p, e := c.Leave()
		x.send(-1, p, e)
	case 3:
		p, e := x.s.Kick(client)
		x.send(client, p, e)
	default:
		p, e := c.Again()
		x.send(-1, p, e)
	}
}

func (x *net) step() {
	client := x.d.throw(4)
	switch n := x.d.throw(24); {
	case n < 5:
		x.tick()
	case n < 7:
		x.order()
	case n == 7:
		x.gaze(client)
	case n == 8 && (x.d.throw(2) == 0 || !x.guests[client].On()):
		x.greet(client)
	case len(x.bag) == 0:
	case n == 9:
		x.take(x.d.throw(len(x.bag)))
	case n == 10:
		x.bag = append(x.bag, x.bag[x.d.throw(len(x.bag))])
	case n == 11:
		// What is spoilt arrives at once, so that nothing is spoilt twice.
		i := x.d.throw(len(x.bag))
		x.turn(i)
		x.deliver(i)
	case n < 14:
		x.deliver(x.d.throw(len(x.bag)))
	default:
		x.deliver(0)
	}
}

// look tells that each client has what it was to have.
func (x *net) look() {
	x.t.Helper()
	for i, c := range x.guests {
		tick, ok := c.Taken()
		now := told{i, c.Epoch(), tick}
		switch {
		case !c.On() || !ok:
			if ok || len(c.Read()) != 0 || len(c.Map()) != 0 || len(c.World()) != 0 || len(c.Held()) != 0 {
				x.t.Fatal("who has taken nothing has something", i, c.Read())
			}
		case !snap.Same(c.Read(), x.shown[now]):
			x.t.Fatal("it isn't what was to be told", now, c.Read(), x.shown[now])
		case x.last[i].epoch == now.epoch && x.last[i].tick > now.tick:
			x.t.Fatal("the tick falls", x.last[i], now)
		case x.last[i].epoch == now.epoch:
			x.mustStay(i)
		}
		x.last[i], x.links[i] = now, c.Map()
	}
}

// mustStay tells that who stays keeps its number.
func (x *net) mustStay(i int) {
	x.t.Helper()
	for _, l := range x.links[i] {
		if local, ok := x.guests[i].Local(l.Net); ok && local != l.Local {
			x.t.Fatal("who stays has another number", l, local)
		}
	}
}

// calm lets ticks go by without the net's losing anything, and tells that all who have a session come along.
func (x *net) calm(ticks int) {
	x.t.Helper()
	x.bag = nil
	for n := range ticks {
		x.tick()
		for len(x.bag) > 0 {
			o := x.take(0)
			kind, e := x.arrive(o)
			if o.To >= 0 && x.comes(o.To) && (e != api.OK || n > 0 && kind != api.Step) {
				x.t.Fatal("it doesn't come along", o.To, kind, e)
			}
		}
		x.look()
		for _, client := range x.s.Sessions() {
			if tick, _ := x.guests[client].Taken(); x.comes(client) && tick != x.s.Tick() {
				x.t.Fatal("it isn't where the server is", client, tick, x.s.Tick())
			}
		}
	}
}

// comes tells whether the client has all that it needs to come along.
func (x *net) comes(client int) bool {
	c := x.guests[client]
	return c.On() && c.Epoch() == x.s.Epoch(client) && client != 3 && x.budget == longest
}

func TestNetThatLosesThings(t *testing.T) {
	seen, wrong, sessions := map[byte]int{}, 0, 0
	for seed := range 120 {
		x := newNet(t, seed)
		for range 12 {
			for range 60 {
				x.step()
				x.look()
			}
			sessions += len(x.s.Sessions())
			x.calm(x.d.throw(4))
		}
		for kind, n := range x.seen {
			seen[kind] += n
		}
		wrong += x.wrong
	}
	// The scripts are worth something only if each thing comes to pass in them.
	for kind := byte(api.Full); kind <= api.Reset; kind++ {
		if seen[kind] < 100 {
			t.Fatal("hardly any of them", kind, seen)
		}
	}
	if wrong < 3000 || sessions < 1000 {
		t.Fatal("hardly any of them", wrong, sessions)
	}
}
