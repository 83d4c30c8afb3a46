package yard_test

import (
	"slices"
	"testing"

	"pinnace/api"
	"pinnace/guest"
	"pinnace/host"
	"pinnace/packet"
	"pinnace/snap"
	"pinnace/yard"
)

// Scripts, thrown by dice: what a client has is what it was to have (P25.2), and it comes along (P25.3).

type script struct {
	*pair
	d     dice
	last  [16]told // what each client had taken before
	had   [16]bool // whether it had taken anything then
	links [16][]guest.Link
	done  map[byte]int // how many steps of each kind were OK
	along int          // how often a client has come along
	steps int          // how many Steps it was sent then
	rises int
}

// newScript is a yard of a few clients, in which room is scarce here and there.
func newScript(t *testing.T, seed int) *script {
	t.Helper()
	d := dice(seed)
	c := yard.Config{
		Host:  host.Config{Slots: 16, Gen: 1, Room: 2 + d.throw(3), K: 1 + d.throw(4), Budget: []int{60, 200, 4100}[d.throw(3)]},
		Slots: []int{3, 16, 16}[d.throw(3)],
		Bag:   []int{3, 12, 60}[d.throw(3)],
	}
	return &script{pair: newPair(t, c), d: d, done: map[byte]int{}}
}

// order is one that may be right, or not.
func (x *script) order() yard.Step {
	d := &x.d
	id := api.ID(1024*(1+d.throw(3)) + d.throw(16))
	at := pos(int32(d.throw(100000)-50000), int32(d.throw(100000)-50000))
	switch d.throw(8) {
	case 0, 1:
		return spawn(at, vel(int32(d.throw(9000)-4500), 900), life(int32(d.throw(60))))
	case 2:
		return spawn(at, comp(api.Spawn, 5, 1, 2))
	case 3:
		return spawn(life(int32(d.throw(5000))))
	case 4, 5:
		return despawn(id)
	case 6:
		return yard.Step{Kind: yard.Order, Order: api.Order{Do: api.DoSet, ID: id, Comps: []api.Comp{at}}}
	}
	return yard.Step{Kind: yard.Order, Order: api.Order{Do: api.DoRemove, ID: id, Kind: byte(d.throw(7))}}
}

// gaze lets a session look anywhere, or follow anybody.
func (x *script) gaze(client int) yard.Step {
	if l := x.y.Host().List(); len(l) > 0 && x.d.throw(3) == 0 {
		return follow(client, l[x.d.throw(len(l))].ID, x.d.throw(4))
	}
	return look(client, api.Region{On: x.d.throw(9) > 0, CX: x.d.throw(4) - 2, CY: x.d.throw(4) - 2, R: x.d.throw(5)})
}

// greeting is what begins a session, or ends one.
func (x *script) greeting(client int) yard.Step {
	switch n := x.d.throw(12); {
	case !x.y.Guest(client).On() && n < 8, n < 2:
		return connect(client)
	case n < 8:
		return again(client)
	case n < 10:
		return leave(client)
	}
	return kick(client)
}

// spoiling turns bits of a datagram, if none of its were turned before.
func (x *script) spoiling() yard.Step {
	i := x.d.throw(len(x.m.bag))
	if x.m.bag[i].turned {
		return drop(i)
	}
	return turn(i, x.d.throw(8*len(x.m.bag[i].frame)+64)-32, uint32(x.d.throw(1<<30))<<2|uint32(x.d.throw(4)))
}

// rubbish is bytes of which packet.Peek tells no head.
func (x *script) rubbish() yard.Step {
	b := make([]byte, x.d.throw(40))
	for i := range b {
		b[i] = byte(x.d.throw(256))
	}
	if _, e := packet.Peek(b); e == api.OK {
		x.t.Fatal("it has a head", b)
	}
	return inject(x.d.throw(5)-1, b)
}

func (x *script) next() yard.Step {
	client, n, under := x.d.throw(5), x.d.throw(36), x.y.Bag().Len()
	switch {
	case n < 6:
		return tick()
	case n < 9:
		return x.order()
	case n < 11:
		return x.gaze(client)
	case n < 13:
		return x.greeting(client)
	case n == 13:
		return calm(x.d.throw(4))
	case n == 14:
		return x.rubbish()
	case n == 15:
		return yard.Step{Kind: byte(x.d.throw(256)), Client: client + 14, I: under + x.d.throw(200)}
	case under == 0:
		return tick()
	case n == 16:
		return drop(x.d.throw(under))
	case n == 17:
		return doubled(x.d.throw(under))
	case n == 18:
		return x.spoiling()
	case n < 23:
		return deliver(x.d.throw(under))
	}
	return deliver(0)
}

// step does the next step, and tells that what was spoilt on its way did nothing.
func (x *script) step() {
	x.t.Helper()
	s := x.next()
	spoilt := s.Kind == yard.Deliver && s.I < len(x.m.bag) && x.m.bag[s.I].turned
	e := x.try(s)
	if spoilt && e != api.ErrSum {
		x.t.Fatal("it was spoilt, and came", s, e)
	}
	if e == api.OK {
		x.done[s.Kind]++
	}
	x.look(s.Kind)
}

// look tells that each client has what it was to have, behind a step of that kind.
func (x *script) look(kind byte) {
	x.t.Helper()
	for i := range 16 {
		c := x.y.Guest(i)
		tick, ok := c.Taken()
		now := told{i, c.Epoch(), tick}
		same := x.had[i] && ok && x.last[i].epoch == now.epoch
		switch {
		case !c.On() || !ok:
			x.mustHaveNothing(i)
		case !snap.Same(c.Read(), x.m.shown[now]):
			x.t.Fatal("it isn't what was to be told", now, c.Read(), x.m.shown[now])
		case same && x.last[i].tick > now.tick:
			x.t.Fatal("the tick falls", x.last[i], now)
		case same && x.last[i].tick < now.tick:
			x.rises++
		}
		// In a Calm a client may take several snapshots, and somebody may go and come again in them.
		if same && kind != yard.Calm {
			x.mustStay(i)
		}
		x.last[i], x.had[i], x.links[i] = now, ok, c.Map()
	}
}

// mustStay tells that who stays keeps its number.
func (x *script) mustStay(i int) {
	x.t.Helper()
	for _, l := range x.links[i] {
		if local, ok := x.y.Guest(i).Local(l.Net); ok && local != l.Local {
			x.t.Fatal("who stays has another number", l, local)
		}
	}
}

// settle lets nothing be under way, and then a Calm go by. Whoever has a session of its epoch comes along then.
func (x *script) settle() {
	x.t.Helper()
	for x.y.Bag().Len() > 0 {
		x.do(drop(0))
	}
	var on []int
	for _, client := range x.y.Host().Sessions() {
		if c := x.y.Guest(client); c.On() && c.Epoch() == x.y.Host().Epoch(client) {
			on = append(on, client)
		}
	}
	n := 1 + x.d.throw(5)
	x.do(calm(n))
	x.look(yard.Calm)
	for _, client := range on {
		if !x.m.cramped[client] {
			x.mustComeAlong(client, n)
		}
	}
}

func (x *script) mustComeAlong(client, n int) {
	x.t.Helper()
	x.mustSee(client, len(x.y.Host().Project(client)))
	kinds := x.m.kinds[client]
	if len(kinds) != n {
		x.t.Fatal(client, kinds, n)
	}
	for _, kind := range kinds[1:] {
		if kind != api.Step {
			x.t.Fatal("not Steps alone", client, kinds)
		}
		x.steps++
	}
	x.along++
}

func TestScripts(t *testing.T) {
	done, taken, refused := map[byte]int{}, map[byte]int{}, map[api.Errno]int{}
	along, steps, rises, lost := 0, 0, 0, 0
	for seed := range 80 {
		x := newScript(t, seed)
		for range 8 {
			for range 50 {
				x.step()
			}
			x.settle()
		}
		for kind, n := range x.done {
			done[kind] += n
		}
		for kind, n := range x.m.taken {
			taken[kind] += n
		}
		for e, n := range x.m.refused {
			refused[e] += n
		}
		along, steps, rises, lost = along+x.along, steps+x.steps, rises+x.rises, lost+x.m.lost
	}
	// The scripts are worth something only if each thing comes to pass in them.
	for kind := yard.Order; kind <= yard.Calm; kind++ {
		if done[kind] < 100 && kind != yard.Inject {
			t.Error("hardly any steps of this kind", kind, done)
		}
	}
	for kind := byte(api.Full); kind <= api.Reset; kind++ {
		if taken[kind] < 100 {
			t.Error("hardly any packets of this kind", kind, taken)
		}
	}
	// There is no ErrBase among them: as long as the server holds what a client has said to have, the client does.
	for _, e := range []api.Errno{api.ErrShort, api.ErrSum, api.ErrFull, api.ErrNone, api.ErrStale, api.ErrEpoch, api.ErrState} {
		if refused[e] < 20 {
			t.Error("hardly any packets refused so", e, refused)
		}
	}
	if along < 500 || steps < 500 || rises < 1000 || lost < 500 {
		t.Error("hardly any", along, steps, rises, lost)
	}
	if refused[api.ErrBase] > 0 || refused[api.ErrForm] > 0 {
		t.Error("what the server sends is refused for what it is", refused)
	}
}

// The same script in another yard is the same.
func TestScriptsAreTheSameAgain(t *testing.T) {
	for seed := range 5 {
		x, y := newScript(t, seed), newScript(t, seed)
		for range 200 {
			x.step()
			y.step()
			if was, now := stateOf(x.y), stateOf(y.y); !was.same(now) {
				t.Fatal(was, now)
			}
		}
	}
}

// All clients at once, near the end of all ticks: each comes along with what its own region shows, is sent Steps alone from the second tick on, and rises tick by tick.
func TestAllComeAlong(t *testing.T) {
	for _, k := range []int{1, 2, 64} {
		c := plain()
		c.Host.K, c.Host.Tick, c.Bag = k, api.MaxTick-12, 16
		p := newPair(t, c)
		for client := range 16 {
			p.do(connect(client), deliver(0), look(client, api.Region{On: true, CX: client - 8, R: client % 3}))
		}
		for n := range int32(10) {
			p.do(spawn(pos(16384*(n-5), 0), vel(3000*(n-4), 50*n)))
		}
		p.do(calm(10))
		for client := range 16 {
			p.mustSee(client, len(p.y.Host().Project(client)))
			want := append([]byte{api.Full}, slices.Repeat([]byte{api.Step}, 9)...)
			if kinds := p.m.kinds[client]; !slices.Equal(kinds, want) {
				t.Fatal(k, client, kinds)
			}
		}
		for range 2 {
			p.do(calm(1))
			for client := range 16 {
				p.mustSee(client, len(p.y.Host().Project(client)))
				if kinds := p.m.kinds[client]; !slices.Equal(kinds, []byte{api.Step}) {
					t.Fatal(k, client, kinds)
				}
			}
		}
		p.refuse(api.ErrEnd, calm(1))
	}
}
