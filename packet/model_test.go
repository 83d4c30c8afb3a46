package packet_test

import (
	"bytes"
	"cmp"
	"hash/crc32"
	"slices"

	"pinnace/api"
)

// A model of packets after the document's words, which uses none of the packages below: bits as text, the first one first.

func comp(kind byte, f ...int32) api.Comp {
	c := api.Comp{Kind: kind}
	copy(c.F[:], f)
	return c
}

func pos(x, y int32) api.Comp { return comp(api.Pos, x, y) }

func vel(dx, dy int32) api.Comp { return comp(api.Vel, dx, dy) }

func life(left int32) api.Comp { return comp(api.Life, left) }

func body(shape, hp, size int32) api.Comp { return comp(api.Body, shape, hp, size) }

func tag(team, color, flags int32) api.Comp { return comp(api.Tag, team, color, flags) }

func breeds(every, left, shape int32) api.Comp { return comp(api.Spawn, every, left, shape) }

func ent(id api.ID, l ...api.Comp) api.Ent { return api.Ent{ID: id, Comps: l} }

func list(l ...api.Ent) []api.Ent { return l }

func equal(a, b []api.Ent) bool {
	return slices.EqualFunc(a, b, func(x, y api.Ent) bool { return x.ID == y.ID && slices.Equal(x.Comps, y.Comps) })
}

// limits is from where to where the fields of the kinds go that are told.
func limits(kind byte) [][2]int64 {
	return [][][2]int64{
		{{-524288, 524287}, {-524288, 524287}},
		{{-32768, 32767}, {-32768, 32767}},
		{{0, 4095}},
		{{0, 15}, {0, 1000}, {1, 100}},
		{{0, 7}, {0, 255}, {0, 31}},
	}[kind]
}

func width(n int64) int {
	w := 0
	for ; n > 0; n /= 2 {
		w++
	}
	return w
}

// ink is bits that are written.
type ink struct{ s []byte }

func (k *ink) put(v uint64, n int) {
	for range n {
		k.s = append(k.s, '0'+byte(v%2))
		v /= 2
	}
}

func (k *ink) putVar(v uint64) {
	for ; v > 15; v /= 16 {
		k.put(v%16, 4)
		k.put(1, 1)
	}
	k.put(v, 5)
}

func (k *ink) head(h api.Head) {
	k.put(uint64(h.Kind)-1, 3)
	k.put(uint64(h.Client), 4)
	k.putVar(uint64(h.Epoch))
	switch h.Kind {
	case api.Full, api.Ack:
		k.put(uint64(h.Tick), 32)
	case api.Step:
		k.put(uint64(h.Tick), 32)
		k.putVar(uint64(h.Tick) - uint64(h.Base) - 1)
	}
}

func (k *ink) comp(c api.Comp) {
	for i, l := range limits(c.Kind) {
		k.put(uint64(int64(c.F[i])-l[0]), width(l[1]-l[0]))
	}
}

func zig(n int64) uint64 {
	if n < 0 {
		return uint64(-2*n - 1)
	}
	return uint64(2 * n)
}

func (k *ink) step(was, c api.Comp) {
	for i, l := range limits(c.Kind) {
		z := zig(int64(c.F[i]) - int64(was.F[i]))
		switch {
		case z == 0:
			k.put(0, 1)
		case z <= 16:
			k.put(3, 2)
			k.put(z-1, 4)
		default:
			k.put(1, 2)
			k.put(uint64(int64(c.F[i])-l[0]), width(l[1]-l[0]))
		}
	}
}

func mask(l []api.Comp) uint64 {
	m := uint64(0)
	for _, c := range l {
		m |= 1 << c.Kind
	}
	return m
}

func (k *ink) id(ahead, id api.ID) { k.putVar(uint64(id) - uint64(ahead) - 1) }

func (k *ink) ents(l []api.Ent) {
	k.putVar(uint64(len(l)))
	ahead := api.ID(0)
	for _, x := range l {
		k.id(ahead, x.ID)
		ahead = x.ID
		k.put(mask(x.Comps), 5)
		for _, c := range x.Comps {
			k.comp(c)
		}
	}
}

func at(l []api.Ent, id api.ID) int {
	return slices.IndexFunc(l, func(x api.Ent) bool { return x.ID == id })
}

func ofKind(l []api.Comp, kind byte) int {
	return slices.IndexFunc(l, func(c api.Comp) bool { return c.Kind == kind })
}

// parts is the delta told entity by entity.
func parts(was, now []api.Ent) api.Delta {
	var d api.Delta
	for _, x := range was {
		if at(now, x.ID) < 0 {
			d.Gone = append(d.Gone, x.ID)
		}
	}
	for _, y := range now {
		i := at(was, y.ID)
		if i < 0 {
			d.Come = append(d.Come, y)
			continue
		}
		if c := part(was[i].Comps, y); c.Lost != 0 || len(c.New)+len(c.Set) > 0 {
			d.Chg = append(d.Chg, c)
		}
	}
	return d
}

func part(was []api.Comp, y api.Ent) api.Change {
	c := api.Change{ID: y.ID}
	for kind := range byte(5) {
		a, b := ofKind(was, kind), ofKind(y.Comps, kind)
		switch {
		case a >= 0 && b < 0:
			c.Lost |= 1 << kind
		case a < 0 && b >= 0:
			c.New = append(c.New, y.Comps[b])
		case a >= 0 && was[a] != y.Comps[b]:
			c.Set = append(c.Set, y.Comps[b])
		}
	}
	return c
}

func (k *ink) delta(was []api.Ent, d api.Delta) {
	k.putVar(uint64(len(d.Gone)))
	ahead := api.ID(0)
	for _, id := range d.Gone {
		k.id(ahead, id)
		ahead = id
	}
	k.ents(d.Come)
	k.putVar(uint64(len(d.Chg)))
	ahead = 0
	for _, c := range d.Chg {
		k.id(ahead, c.ID)
		ahead = c.ID
		k.put(uint64(c.Lost), 5)
		k.put(mask(c.New), 5)
		k.put(mask(c.Set), 5)
		for _, x := range c.New {
			k.comp(x)
		}
		old := was[at(was, c.ID)].Comps
		for _, x := range c.Set {
			k.step(old[ofKind(old, x.Kind)], x)
		}
	}
}

// written is the bits of a packet whose head is right and whose lists are snapshots.
func written(h api.Head, was, now []api.Ent) string {
	k := &ink{}
	k.head(h)
	switch h.Kind {
	case api.Full:
		k.ents(now)
	case api.Step:
		k.delta(was, parts(was, now))
	}
	return string(k.s)
}

// packed is the bits' bytes.
func packed(s string) []byte {
	p := make([]byte, (len(s)+7)/8)
	for i, c := range []byte(s) {
		p[i/8] |= (c - '0') << (i % 8)
	}
	return p
}

func unpacked(p []byte) string {
	k := &ink{}
	for _, b := range p {
		k.put(uint64(b), 8)
	}
	return string(k.s)
}

// sealed is a frame of the body, whatever that is.
func sealed(p []byte) []byte {
	sum := crc32.ChecksumIEEE(p)
	return append(slices.Clone(p), byte(sum), byte(sum>>8), byte(sum>>16), byte(sum>>24))
}

func sealedText(s string) []byte { return sealed(packed(s)) }

// eye reads bits as generously as it can: what it reads is right only if writing it again makes the same of it.
type eye struct {
	s   string
	bad bool
}

func (y *eye) get(n int) uint64 {
	if n > len(y.s) {
		y.bad = true
		return 0
	}
	v := uint64(0)
	for i, c := range []byte(y.s[:n]) {
		v |= uint64(c-'0') << i
	}
	y.s = y.s[n:]
	return v
}

func (y *eye) getVar() uint64 {
	v := uint64(0)
	for i := range 16 {
		v |= y.get(4) << (4 * i)
		if y.get(1) == 0 {
			return v
		}
	}
	y.bad = true
	return v
}

func (y *eye) head() api.Head {
	h := api.Head{Kind: byte(y.get(3)) + 1, Client: byte(y.get(4)), Epoch: uint32(y.getVar())}
	if h.Kind <= api.Ack {
		h.Tick = uint32(y.get(32))
	}
	if h.Kind == api.Step {
		h.Base = h.Tick - uint32(y.getVar()) - 1
	}
	return h
}

func (y *eye) comps(mask uint64) []api.Comp {
	var out []api.Comp
	for kind := range byte(5) {
		if mask>>kind%2 == 0 {
			continue
		}
		c := api.Comp{Kind: kind}
		for i, l := range limits(kind) {
			c.F[i] = int32(int64(y.get(width(l[1]-l[0]))) + l[0])
		}
		out = append(out, c)
	}
	return out
}

func (y *eye) steps(was []api.Comp, mask uint64) []api.Comp {
	var out []api.Comp
	for kind := range byte(5) {
		if mask>>kind%2 == 0 {
			continue
		}
		a := ofKind(was, kind)
		if a < 0 {
			y.bad = true
			return nil
		}
		out = append(out, y.step(was[a]))
	}
	return out
}

func (y *eye) step(c api.Comp) api.Comp {
	for i, l := range limits(c.Kind) {
		if y.get(1) == 0 {
			continue
		}
		if y.get(1) == 0 {
			c.F[i] = int32(int64(y.get(width(l[1]-l[0]))) + l[0])
			continue
		}
		z := int32(y.get(4)) + 1
		if z%2 == 1 {
			z = -z - 1
		}
		c.F[i] += z / 2
	}
	return c
}

func (y *eye) ents() []api.Ent {
	var l []api.Ent
	id := api.ID(0)
	for n := y.getVar(); n > 0 && !y.bad; n-- {
		id += api.ID(y.getVar()) + 1
		l = append(l, ent(id, y.comps(y.get(5))...))
	}
	return l
}

// after reads a delta and does what it says.
func (y *eye) after(was []api.Ent) []api.Ent {
	gone, id := []api.ID{}, api.ID(0)
	for n := y.getVar(); n > 0 && !y.bad; n-- {
		id += api.ID(y.getVar()) + 1
		gone = append(gone, id)
	}
	come := y.ents()
	chg := map[api.ID][]api.Comp{}
	id = 0
	for n := y.getVar(); n > 0 && !y.bad; n-- {
		id += api.ID(y.getVar()) + 1
		lost, fresh, set := y.get(5), y.get(5), y.get(5)
		var old []api.Comp
		if i := at(was, id); i >= 0 {
			old = was[i].Comps
		}
		chg[id] = renewed(old, lost, y.comps(fresh), y.steps(old, set))
	}
	var now []api.Ent
	for _, x := range was {
		if l, ok := chg[x.ID]; ok {
			x.Comps = l
		}
		if !slices.Contains(gone, x.ID) {
			now = append(now, x)
		}
	}
	now = append(now, come...)
	slices.SortStableFunc(now, func(a, b api.Ent) int { return cmp.Compare(a.ID, b.ID) })
	return now
}

func renewed(old []api.Comp, lost uint64, fresh, set []api.Comp) []api.Comp {
	var l []api.Comp
	for _, c := range slices.Concat(set, fresh, old) {
		if lost>>c.Kind%2 == 0 && ofKind(l, c.Kind) < 0 {
			l = append(l, c)
		}
	}
	slices.SortFunc(l, func(a, b api.Comp) int { return cmp.Compare(a.Kind, b.Kind) })
	return l
}

func isRight(h api.Head) bool {
	switch {
	case h.Kind < 1 || h.Kind > 5 || h.Client > 15 || h.Epoch < 1:
		return false
	case h.Kind == api.Step:
		return h.Base < h.Tick
	case h.Kind == api.Connect || h.Kind == api.Reset:
		return h.Tick == 0 && h.Base == 0
	}
	return h.Base == 0
}

func isSnap(l []api.Ent) bool {
	for i, x := range l {
		if x.ID < 1024 || i > 0 && x.ID <= l[i-1].ID || !isList(x.Comps) {
			return false
		}
	}
	return true
}

func isList(l []api.Comp) bool {
	for i, c := range l {
		if c.Kind > 4 || i > 0 && c.Kind <= l[i-1].Kind {
			return false
		}
		for k, f := range c.F {
			lo, hi := int64(0), int64(0)
			if m := limits(c.Kind); k < len(m) {
				lo, hi = m[k][0], m[k][1]
			}
			if int64(f) < lo || int64(f) > hi {
				return false
			}
		}
	}
	return true
}

// peeked is the head that stands in front of a body.
func peeked(p []byte) (api.Head, bool) {
	y := &eye{s: unpacked(p)}
	h := y.head()
	k := &ink{}
	if y.bad || !isRight(h) {
		return api.Head{}, false
	}
	k.head(h)
	return h, bytes.HasPrefix([]byte(unpacked(p)), k.s)
}

// opened is what a body tells behind was.
func opened(p []byte, was []api.Ent) (api.Head, []api.Ent, bool) {
	h, ok := peeked(p)
	if !ok {
		return api.Head{}, nil, false
	}
	y := &eye{s: unpacked(p)}
	y.head()
	var now []api.Ent
	switch h.Kind {
	case api.Full:
		now = y.ents()
	case api.Step:
		if !isSnap(was) {
			return api.Head{}, nil, false
		}
		now = y.after(was)
	}
	if y.bad || !isSnap(now) || !bytes.Equal(packed(written(h, was, now)), p) {
		return api.Head{}, nil, false
	}
	return h, now, true
}
