package packet

import (
	"cmp"
	"slices"

	"pinnace/api"
	"pinnace/bits"
	"pinnace/comp"
	"pinnace/diff"
	"pinnace/nums"
	"pinnace/schema"
	"pinnace/snap"
)

const (
	tickBits = 32
	// The kinds that clients are told of are the first ones, so that a mask of them has a bit for each of these.
	maskBits = 5
)

// pen writes a packet's bits. It keeps the first error, so that only who has written all needs to ask for it.
type pen struct {
	w *bits.Writer
	e api.Errno
}

func (p *pen) note(e api.Errno) {
	if p.e == api.OK {
		p.e = e
	}
}

func (p *pen) put(v uint64, n int) { p.note(p.w.Put(v, n)) }

func (p *pen) putVar(v uint64) { p.note(nums.PutVar(p.w, v)) }

func (p *pen) putIn(n, lo, hi int64) { p.note(nums.PutIn(p.w, n, lo, hi)) }

// head writes a head, which must be right.
func (p *pen) head(h api.Head) {
	p.putIn(int64(h.Kind), api.Full, api.Reset)
	p.putIn(int64(h.Client), 0, api.MaxClients-1)
	p.putVar(uint64(h.Epoch))
	if hasTick(h.Kind) {
		p.put(uint64(h.Tick), tickBits)
	}
	if h.Kind == api.Step {
		p.putVar(uint64(h.Tick - h.Base - 1))
	}
}

// content writes what stands behind the head. It answers what is wrong with the lists; whether there was room, the pen tells.
func (p *pen) content(kind byte, was, now []api.Ent) api.Errno {
	switch kind {
	case api.Full:
		if e := snap.Form(now); e != api.OK {
			return e
		}
		p.ents(now)
	case api.Step:
		d, e := diff.Diff(was, now)
		if e != api.OK {
			return e
		}
		p.delta(was, d)
	default:
		if len(now) > 0 {
			return api.ErrForm
		}
	}
	return api.OK
}

func (p *pen) count(n int) { p.putVar(uint64(n)) }

// id writes the ID behind the one ahead of it in its list, or behind 0.
func (p *pen) id(ahead, id api.ID) { p.putVar(uint64(id - ahead - 1)) }

func (p *pen) mask(mask byte) { p.put(uint64(mask), maskBits) }

func (p *pen) comps(l []api.Comp) {
	for _, c := range l {
		p.note(comp.Put(p.w, c))
	}
}

func (p *pen) ents(l []api.Ent) {
	p.count(len(l))
	ahead := api.ID(0)
	for _, x := range l {
		p.id(ahead, x.ID)
		p.mask(schema.Mask(x.Comps))
		p.comps(x.Comps)
		ahead = x.ID
	}
}

// delta writes a delta from was.
func (p *pen) delta(was []api.Ent, d api.Delta) {
	p.ids(d.Gone)
	p.ents(d.Come)
	p.changes(was, d.Chg)
}

func (p *pen) ids(l []api.ID) {
	p.count(len(l))
	ahead := api.ID(0)
	for _, id := range l {
		p.id(ahead, id)
		ahead = id
	}
}

func (p *pen) changes(was []api.Ent, l []api.Change) {
	p.count(len(l))
	ahead := api.ID(0)
	for _, c := range l {
		p.id(ahead, c.ID)
		p.mask(c.Lost)
		p.mask(schema.Mask(c.New))
		p.mask(schema.Mask(c.Set))
		p.comps(c.New)
		p.steps(before(was, c.ID), c.Set)
		ahead = c.ID
	}
}

// steps writes each component behind the one of its kind in was.
func (p *pen) steps(was, l []api.Comp) {
	for _, c := range l {
		p.note(comp.PutStep(p.w, ofKind(was, c.Kind), c))
	}
}

// before is the components that the entity had in was, a snapshot.
func before(was []api.Ent, id api.ID) []api.Comp {
	i, ok := slices.BinarySearchFunc(was, id, func(x api.Ent, id api.ID) int { return cmp.Compare(x.ID, id) })
	if !ok {
		return nil
	}
	return was[i].Comps
}

// none is of no kind that there is: nothing can stand behind it.
const none = api.Kinds

// ofKind is the component of that kind in l, or one of which there is none.
func ofKind(l []api.Comp, kind byte) api.Comp {
	for _, c := range l {
		if c.Kind == kind {
			return c
		}
	}
	return api.Comp{Kind: none}
}
