package shell

import (
	"math"
	"strings"

	"pinnace/api"
	"pinnace/schema"
	"pinnace/yard"
)

const (
	numberDigits = 9
	idDigits     = 10
)

// reader goes through the words of a line. What a call answers is worth something only if the line turns out right at its end.
type reader struct {
	left []string
	bad  bool // a word was not what it should be
}

func read(line string) *reader { return &reader{left: strings.Split(line, " ")} }

// end tells whether nothing is left, and all was right.
func (r *reader) end() bool { return !r.bad && len(r.left) == 0 }

// next is the next word; where none is left an empty one, which is wrong everywhere: so is the one between two blanks.
func (r *reader) next() string {
	if len(r.left) == 0 {
		return ""
	}
	word := r.left[0]
	r.left = r.left[1:]
	return word
}

// natural is the number that the digits are; false: they are none, or more than there may be.
func natural(digits string, most int) (int64, bool) {
	if digits == "" || len(digits) > most || digits[0] == '0' && len(digits) > 1 {
		return 0, false
	}
	n := int64(0)
	for i := range len(digits) {
		d := digits[i]
		if d < '0' || d > '9' {
			return 0, false
		}
		n = 10*n + int64(d-'0')
	}
	return n, true
}

func (r *reader) number() int {
	digits, below := strings.CutPrefix(r.next(), "-")
	n, ok := natural(digits, numberDigits)
	if !ok || below && n == 0 {
		r.bad = true
		return 0
	}
	if below {
		n = -n
	}
	return int(n)
}

func (r *reader) id() api.ID {
	n, ok := natural(r.next(), idDigits)
	if !ok || n > math.MaxUint32 {
		r.bad = true
		return 0
	}
	return api.ID(n)
}

// kind is that of the name which is next.
func (r *reader) kind() byte {
	kind, ok := schema.Kind(r.next())
	if !ok {
		r.bad = true
	}
	return kind
}

// comp is a component. Whether its numbers may be is for the layers below to tell: all of them have room in a field.
func (r *reader) comp() api.Comp {
	c := api.Comp{Kind: r.kind()}
	if r.bad {
		return api.Comp{}
	}
	for i := range schema.Count(c.Kind) {
		c.F[i] = int32(r.number())
	}
	return c
}

// comps is all components up to the line's end.
func (r *reader) comps() []api.Comp {
	var l []api.Comp
	for !r.bad && len(r.left) > 0 {
		l = append(l, r.comp())
	}
	return l
}

// pattern is the low 32 bits of a number.
func (r *reader) pattern() uint32 { return uint32(r.number()) }

// step is what the line asks for. The words are taken in the order in which the fields stand here.
func (r *reader) step() yard.Step {
	switch r.next() {
	case "spawn":
		return order(api.Order{Do: api.DoSpawn, Comps: r.comps()})
	case "despawn":
		return order(api.Order{Do: api.DoDespawn, ID: r.id()})
	case "set":
		return order(api.Order{Do: api.DoSet, ID: r.id(), Comps: []api.Comp{r.comp()}})
	case "add":
		return order(api.Order{Do: api.DoAdd, ID: r.id(), Comps: []api.Comp{r.comp()}})
	case "remove":
		return order(api.Order{Do: api.DoRemove, ID: r.id(), Kind: r.kind()})
	case "tick":
		return yard.Step{Kind: yard.Tick}
	case "calm":
		return yard.Step{Kind: yard.Calm, I: r.number()}
	case "connect":
		return yard.Step{Kind: yard.Connect, Client: r.number()}
	case "again":
		return yard.Step{Kind: yard.Again, Client: r.number()}
	case "leave":
		return yard.Step{Kind: yard.Leave, Client: r.number()}
	case "kick":
		return yard.Step{Kind: yard.Kick, Client: r.number()}
	case "look":
		return yard.Step{Kind: yard.Look, Client: r.number(), Region: r.region()}
	case "follow":
		return yard.Step{Kind: yard.Follow, Client: r.number(), ID: r.id(), R: r.number()}
	case "deliver":
		return yard.Step{Kind: yard.Deliver, I: r.number()}
	case "copy":
		return yard.Step{Kind: yard.Copy, I: r.number()}
	case "drop":
		return yard.Step{Kind: yard.Drop, I: r.number()}
	case "turn":
		return yard.Step{Kind: yard.Turn, I: r.number(), At: r.number(), Pattern: r.pattern()}
	}
	r.bad = true
	return yard.Step{}
}

func order(o api.Order) yard.Step { return yard.Step{Kind: yard.Order, Order: o} }

func (r *reader) region() api.Region {
	return api.Region{On: true, CX: r.number(), CY: r.number(), R: r.number()}
}
