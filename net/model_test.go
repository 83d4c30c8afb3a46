package net_test

import (
	"math/big"
	"slices"
	"testing"

	"pinnace/api"
	"pinnace/bits"
	"pinnace/net"
)

// dice throws the same numbers in every run.
type dice uint64

func (d *dice) throw(n int) int {
	*d = *d*6364136223846793005 + 1442695040888963407
	return int(uint64(*d) >> 33 % uint64(n))
}

// turned is Turned bit by bit, as layer 1 reads and writes them: of each bit of p it is asked whether the pattern has it, in numbers that have no end.
func turned(t *testing.T, p []byte, at int, pattern uint32) []byte {
	t.Helper()
	r, w := bits.Read(p), bits.New()
	for i := range 8 * len(p) {
		v, e := r.Get(1)
		if e != api.OK {
			t.Fatal(e)
		}
		k := new(big.Int).Sub(big.NewInt(int64(i)), big.NewInt(int64(at)))
		if k.Sign() >= 0 && k.Cmp(big.NewInt(32)) < 0 && big.NewInt(int64(pattern)).Bit(int(k.Int64())) == 1 {
			v = 1 - v
		}
		if e := w.Put(v, 1); e != api.OK {
			t.Fatal(e)
		}
	}
	return w.Bytes()
}

// gram is a datagram whose frame is a text, which nobody can write over.
type gram struct {
	to    int
	frame string
}

func (g gram) out() api.Out { return api.Out{To: g.to, Frame: []byte(g.frame)} }

func gramOf(o api.Out) gram { return gram{o.To, string(o.Frame)} }

// model is a bag as the chapter says it: each call makes its list anew.
type model struct {
	t *testing.T
	n int
	l []gram
}

func (m *model) has(i int) bool { return 0 <= i && i < len(m.l) }

func (m *model) put(g gram) api.Errno {
	if len(m.l) == m.n {
		return api.ErrFull
	}
	m.l = slices.Concat(m.l, []gram{g})
	return api.OK
}

func (m *model) take(i int) (gram, api.Errno) {
	if !m.has(i) {
		return gram{}, api.ErrNone
	}
	g := m.l[i]
	m.l = slices.Concat(m.l[:i], m.l[i+1:])
	return g, api.OK
}

func (m *model) copy(i int) api.Errno {
	if !m.has(i) {
		return api.ErrNone
	}
	return m.put(m.l[i])
}

func (m *model) turn(i, at int, pattern uint32) api.Errno {
	if !m.has(i) {
		return api.ErrNone
	}
	g := gram{m.l[i].to, string(turned(m.t, []byte(m.l[i].frame), at, pattern))}
	m.l = slices.Concat(m.l[:i], []gram{g}, m.l[i+1:])
	return api.OK
}

func (m *model) to(to int) []int {
	l := []int{}
	for i, g := range m.l {
		if g.to == to {
			l = append(l, i)
		}
	}
	return l
}

// pair is a bag and its model, which are told the same; each answer of the one is held against that of the other.
type pair struct {
	t *testing.T
	b *net.Bag
	m *model
}

func mustNew(t *testing.T, n int) *pair {
	t.Helper()
	b, e := net.New(n)
	if b == nil || e != api.OK {
		t.Fatalf("New(%d) = %v, %d", n, b, e)
	}
	x := &pair{t, b, &model{t: t, n: n}}
	x.look()
	return x
}

// bagOf is a bag with room for n, and with these in it.
func bagOf(t *testing.T, n int, l ...gram) *pair {
	t.Helper()
	x := mustNew(t, n)
	for _, g := range l {
		x.put(g, api.OK)
	}
	return x
}

// look asks for everything that the bag tells, at its places, beside them, and of whom nothing goes to.
func (x *pair) look() {
	x.t.Helper()
	if n := x.b.Len(); n != len(x.m.l) {
		x.t.Fatalf("Len = %d, not %d", n, len(x.m.l))
	}
	for i, g := range x.m.l {
		if o, e := x.b.Peek(i); gramOf(o) != g || e != api.OK {
			x.t.Fatalf("Peek(%d) = %v, %d, not %v", i, o, e, g)
		}
	}
	for _, i := range beside(len(x.m.l)) {
		if o, e := x.b.Peek(i); o.To != 0 || o.Frame != nil || e != api.ErrNone {
			x.t.Fatalf("Peek(%d) = %v, %d", i, o, e)
		}
	}
	asked := []int{-2, -1, 0, 1, 15, 16}
	for _, g := range x.m.l {
		asked = append(asked, g.to)
	}
	slices.Sort(asked)
	for _, to := range slices.Compact(asked) {
		if l := x.b.To(to); !slices.Equal(l, x.m.to(to)) {
			x.t.Fatalf("To(%d) = %d, not %d", to, l, x.m.to(to))
		}
	}
}

// must holds the answer of a call against that of the model, and against what the test wants.
func (x *pair) must(call string, e, model, want api.Errno) {
	x.t.Helper()
	if e != model || e != want {
		x.t.Fatalf("%s = %d, not %d (the model: %d)", call, e, want, model)
	}
	x.look()
}

func (x *pair) put(g gram, want api.Errno) {
	x.t.Helper()
	x.must("Put", x.b.Put(g.out()), x.m.put(g), want)
}

func (x *pair) take(i int, want api.Errno) gram {
	x.t.Helper()
	o, e := x.b.Take(i)
	g, model := x.m.take(i)
	if gramOf(o) != g {
		x.t.Fatalf("Take(%d) = %v, not %v", i, o, g)
	}
	x.must("Take", e, model, want)
	return g
}

func (x *pair) copy(i int, want api.Errno) {
	x.t.Helper()
	x.must("Copy", x.b.Copy(i), x.m.copy(i), want)
}

func (x *pair) drop(i int, want api.Errno) {
	x.t.Helper()
	_, model := x.m.take(i)
	x.must("Drop", x.b.Drop(i), model, want)
}

func (x *pair) turn(i, at int, pattern uint32, want api.Errno) {
	x.t.Helper()
	x.must("Turn", x.b.Turn(i, at, pattern), x.m.turn(i, at, pattern), want)
}

// mustHold names what is under way, apart from the model.
func (x *pair) mustHold(want ...gram) {
	x.t.Helper()
	l := []gram{}
	for i := range x.b.Len() {
		o, _ := x.b.Peek(i)
		l = append(l, gramOf(o))
	}
	if !slices.Equal(l, want) {
		x.t.Fatalf("under way are %v, not %v", l, want)
	}
}

// spoil writes over all of a list, spare room too.
func spoil[T any](l []T, by T) {
	l = l[:cap(l)]
	for i := range l {
		l[i] = by
	}
}

// roomy is a text's bytes, with spare room behind them.
func roomy(text string) []byte { return []byte(text + "room")[:len(text)] }
