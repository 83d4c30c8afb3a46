package packet

import (
	"pinnace/api"
	"pinnace/bits"
	"pinnace/comp"
	"pinnace/diff"
	"pinnace/nums"
	"pinnace/snap"
)

const (
	// Epochs are below it.
	epochs = 1 << 32
	// No ID is above it.
	lastID = 1<<32 - 1
)

// told is all that a frame tells.
type told struct {
	head api.Head
	now  []api.Ent
}

// reader reads a packet's bits.
type reader struct {
	r *bits.Reader
}

func newReader(body []byte) reader { return reader{bits.Read(body)} }

// givenUp is what a reader panics with where the bits are no packet's, so that its parts need not ask each other.
type givenUp struct{}

func must(e api.Errno) {
	if e != api.OK {
		panic(givenUp{})
	}
}

func (r reader) get(n int) uint64 {
	v, e := r.r.Get(n)
	must(e)
	return v
}

func (r reader) getVar() uint64 {
	v, e := nums.GetVar(r.r)
	must(e)
	return v
}

// below reads a Var of a number below n.
func (r reader) below(n uint64) uint64 {
	v := r.getVar()
	if v >= n {
		panic(givenUp{})
	}
	return v
}

func (r reader) getIn(lo, hi int64) int64 {
	n, e := nums.GetIn(r.r, lo, hi)
	must(e)
	return n
}

// all reads all of a packet, of a Step behind was.
func (r reader) all(was []api.Ent) told {
	x := told{head: r.head()}
	switch x.head.Kind {
	case api.Full:
		x.now = r.snapshot()
	case api.Step:
		x.now = r.step(was)
	}
	must(r.r.End())
	return x
}

func (r reader) head() api.Head {
	var h api.Head
	h.Kind = byte(r.getIn(api.Full, api.Reset))
	h.Client = byte(r.getIn(0, api.MaxClients-1))
	h.Epoch = uint32(r.below(epochs))
	if hasTick(h.Kind) {
		h.Tick = uint32(r.get(tickBits))
	}
	if h.Kind == api.Step {
		h.Base = h.Tick - uint32(r.below(uint64(h.Tick))) - 1
	}
	must(Check(h))
	return h
}

func (r reader) snapshot() []api.Ent {
	l := r.ents()
	must(snap.Form(l))
	return l
}

// step reads a delta, and is the snapshot to which that leads from was.
func (r reader) step(was []api.Ent) []api.Ent {
	var d api.Delta
	d.Gone = r.ids()
	d.Come = r.ents()
	d.Chg = r.changes(was)
	now, e := diff.Patch(was, d)
	must(e)
	return now
}

// id reads an ID behind the one ahead of it in its list, or behind 0.
func (r reader) id(ahead api.ID) api.ID {
	return ahead + api.ID(r.below(lastID-uint64(ahead))) + 1
}

func (r reader) ids() []api.ID {
	var l []api.ID
	ahead := api.ID(0)
	for range r.getVar() {
		ahead = r.id(ahead)
		l = append(l, ahead)
	}
	return l
}

func (r reader) ents() []api.Ent {
	var l []api.Ent
	ahead := api.ID(0)
	for range r.getVar() {
		ahead = r.id(ahead)
		l = append(l, api.Ent{ID: ahead, Comps: r.comps(r.mask())})
	}
	return l
}

func (r reader) changes(was []api.Ent) []api.Change {
	var l []api.Change
	ahead := api.ID(0)
	for range r.getVar() {
		ahead = r.id(ahead)
		c := api.Change{ID: ahead}
		c.Lost = r.mask()
		fresh, set := r.mask(), r.mask()
		c.New = r.comps(fresh)
		c.Set = r.steps(before(was, ahead), set)
		l = append(l, c)
	}
	return l
}

func (r reader) mask() byte { return byte(r.get(maskBits)) }

// kinds is those of which the mask has a bit, rising.
func kinds(mask byte) []byte {
	var l []byte
	for kind := range byte(maskBits) {
		if mask>>kind&1 == 1 {
			l = append(l, kind)
		}
	}
	return l
}

// comps reads a component of each kind in the mask.
func (r reader) comps(mask byte) []api.Comp {
	var l []api.Comp
	for _, kind := range kinds(mask) {
		c, e := comp.Get(r.r, kind)
		must(e)
		l = append(l, c)
	}
	return l
}

// steps reads a component of each kind in the mask behind the one in was, and gives up where that has none.
func (r reader) steps(was []api.Comp, mask byte) []api.Comp {
	var l []api.Comp
	for _, kind := range kinds(mask) {
		c, e := comp.GetStep(r.r, ofKind(was, kind))
		must(e)
		l = append(l, c)
	}
	return l
}
