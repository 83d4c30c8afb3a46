package shell_test

import (
	"fmt"
	"strings"
	"testing"

	"pinnace/api"
	"pinnace/host"
	"pinnace/shell"
	"pinnace/yard"
)

// Scripts, thrown by dice: each line is answered as its step in a yard that is told of it without words.

// dice throws the same numbers in every run.
type dice uint64

func (d *dice) throw(n int) int {
	*d = *d*6364136223846793005 + 1442695040888963407
	return int(uint64(*d) >> 33 % uint64(n))
}

// signed is a number about 0.
func (d *dice) signed(n int) int { return d.throw(2*n) - n }

// kinds is what a model knows of components: their names, and how many fields they have.
var kinds = []struct {
	name   string
	fields int
	most   int
}{{"pos", 2, 60000}, {"vel", 2, 9000}, {"life", 1, 60}, {"body", 3, 16}, {"tag", 3, 8}, {"spawn", 3, 16}}

// model is a script as it grows, and what is to be answered.
type model struct {
	t    *testing.T
	d    dice
	y    *yard.Yard
	text strings.Builder
	want strings.Builder
	said map[string]int // how often each answer came, and each kind of line was OK
}

func newModel(t *testing.T, seed int) *model {
	t.Helper()
	y, e := yard.New(yard.Config{Host: host.Config{Slots: 40, Gen: 1, Room: 4, K: 4, Budget: 600}, Slots: 40, Bag: 200})
	if e != api.OK {
		t.Fatal(e)
	}
	return &model{t: t, d: dice(seed), y: y, said: map[string]int{}}
}

func (m *model) add(line, answer string) {
	m.text.WriteString(line + "\n")
	m.want.WriteString(answer + "\n")
	m.said[answer]++
	if answer == "ok" {
		word, _, _ := strings.Cut(line, " ")
		m.said[word]++
	}
}

// do adds the line of a step.
func (m *model) do(line string, s yard.Step) {
	m.t.Helper()
	if x, e := shell.Parse(line); e != api.OK || !sameStep(x, s) {
		m.t.Fatalf("%q is %+v, %d, not %+v", line, x, e, s)
	}
	if e := m.y.Do(s); e != api.OK {
		m.add(line, fmt.Sprintf("error %d", e))
		return
	}
	m.add(line, "ok")
}

// comp is a component that may be right, and its words.
func (m *model) comp(kind int) (api.Comp, string) {
	c, said := api.Comp{Kind: byte(kind)}, kinds[kind].name
	for i := range kinds[kind].fields {
		n := 1 + m.d.throw(kinds[kind].most)
		if kind < 2 || m.d.throw(200) == 0 {
			n = m.d.signed(kinds[kind].most)
		}
		c.F[i] = int32(n)
		said += fmt.Sprint(" ", n)
	}
	return c, said
}

func (m *model) id() api.ID { return api.ID(1024*(1+m.d.throw(2)) + m.d.throw(12)) }

func (m *model) spawn() {
	line := "spawn"
	var l []api.Comp
	for kind := range kinds {
		if m.d.throw(3) == 0 || kind == 0 && m.d.throw(4) > 0 {
			c, said := m.comp(kind)
			l, line = append(l, c), line+" "+said
		}
	}
	m.do(line, spawn(l...))
}

func (m *model) order() {
	id, kind := m.id(), m.d.throw(len(kinds))
	c, said := m.comp(kind)
	switch m.d.throw(6) {
	case 0:
		m.do(fmt.Sprintf("despawn %d", id), order(api.DoDespawn, id, 0))
	case 1:
		m.do(fmt.Sprintf("set %d %s", id, said), order(api.DoSet, id, 0, c))
	case 2:
		m.do(fmt.Sprintf("add %d %s", id, said), order(api.DoAdd, id, 0, c))
	case 3:
		m.do(fmt.Sprintf("remove %d %s", id, kinds[kind].name), order(api.DoRemove, id, byte(kind)))
	default:
		m.spawn()
	}
}

func (m *model) gaze(client int) {
	if m.d.throw(3) == 0 {
		id, r := m.id(), m.d.throw(4)
		m.do(fmt.Sprintf("follow %d %d %d", client, id, r), yard.Step{Kind: yard.Follow, Client: client, ID: id, R: r})
		return
	}
	x, y, r := m.d.signed(3), m.d.signed(3), m.d.throw(6)
	m.do(fmt.Sprintf("look %d %d %d %d", client, x, y, r), yard.Step{Kind: yard.Look, Client: client, Region: api.Region{On: true, CX: x, CY: y, R: r}})
}

func (m *model) greet(client int) {
	word, kind := "again", yard.Again
	switch n := m.d.throw(12); {
	case !m.y.Guest(client).On() && n < 8, n == 0:
		word, kind = "connect", yard.Connect
	case n == 1:
		word, kind = "leave", yard.Leave
	case n == 2:
		word, kind = "kick", yard.Kick
	}
	m.do(fmt.Sprintf("%s %d", word, client), yard.Step{Kind: kind, Client: client})
}

// carry is about what is under way; the place is one too far now and then.
func (m *model) carry() {
	i := m.d.throw(m.y.Bag().Len() + 1)
	switch m.d.throw(10) {
	case 0:
		m.do(fmt.Sprintf("copy %d", i), yard.Step{Kind: yard.Copy, I: i})
	case 1:
		m.do(fmt.Sprintf("drop %d", i), yard.Step{Kind: yard.Drop, I: i})
	case 2:
		at, pattern := m.d.signed(300), m.d.signed(900000000)
		m.do(fmt.Sprintf("turn %d %d %d", i, at, pattern), yard.Step{Kind: yard.Turn, I: i, At: at, Pattern: uint32(int64(pattern) & 0xffffffff)})
	default:
		if m.d.throw(2) == 0 {
			i = 0
		}
		m.do(fmt.Sprintf("deliver %d", i), yard.Step{Kind: yard.Deliver, I: i})
	}
}

// wrong is a line that is none.
func (m *model) wrong() {
	lines := []string{"", "tick 1", "world 1", "bag ", " client 0", "client", "client 00", "despawn -1", "spawn pos 1", "calm", "Tick", "deliver +0", "look 0 0 0"}
	m.add(lines[m.d.throw(len(lines))], "error 16")
}

// ents is what is to be told of entities.
func ents(l []api.Ent) string {
	said := ""
	for _, x := range l {
		said += fmt.Sprintf("; %d", x.ID)
		for _, c := range x.Comps {
			said += fmt.Sprint(" ", kinds[c.Kind].name)
			for i := range kinds[c.Kind].fields {
				said += fmt.Sprint(" ", c.F[i])
			}
		}
	}
	return said
}

func (m *model) ask(client int) {
	m.add("world", fmt.Sprintf("tick %d%s", m.y.Host().Tick(), ents(m.y.Host().List())))
	m.add("bag", fmt.Sprint(m.y.Bag().Len()))
	line := fmt.Sprintf("client %d", client)
	g := m.y.Guest(client)
	switch tick, ok := g.Taken(); {
	case !g.On():
		m.add(line, "off")
	case !ok:
		m.add(line, fmt.Sprintf("epoch %d", g.Epoch()))
	default:
		m.add(line, fmt.Sprintf("epoch %d tick %d%s", g.Epoch(), tick, ents(g.Read())))
		if len(g.Read()) > 0 {
			m.said["entities"]++
		}
	}
}

func (m *model) step() {
	client := m.d.throw(5)
	switch n := m.d.throw(30); {
	case n < 5:
		m.do("tick", yard.Step{Kind: yard.Tick})
	case n < 6:
		i := m.d.throw(4)
		m.do(fmt.Sprintf("calm %d", i), yard.Step{Kind: yard.Calm, I: i})
	case n < 11:
		m.order()
	case n < 14:
		m.gaze(client)
	case n < 16:
		m.greet(client)
	case n < 17:
		m.wrong()
	case n < 19:
		m.ask(client)
	default:
		m.carry()
	}
}

// mustAgree tells that the script is answered so, the second time too.
func (m *model) mustAgree() {
	m.t.Helper()
	if m.text.Len() > api.MaxText {
		m.t.Fatal("the script is too long", m.text.Len())
	}
	for range 2 {
		s, e := shell.Run(m.text.String())
		if e != api.OK {
			m.t.Fatal(e)
		}
		if s == m.want.String() {
			continue
		}
		lines, got, want := strings.Split(m.text.String(), "\n"), strings.Split(s, "\n"), strings.Split(m.want.String(), "\n")
		if len(got) != len(want) {
			m.t.Fatal(len(got), "answers, not", len(want))
		}
		for i, line := range lines {
			if got[i] != want[i] {
				m.t.Fatalf("the line %d, %q, is answered %q, not %q", i, line, got[i], want[i])
			}
		}
	}
}

func TestScripts(t *testing.T) {
	said := map[string]int{}
	for seed := range 24 {
		m := newModel(t, seed)
		for m.text.Len() < api.MaxText-200 {
			m.step()
		}
		m.mustAgree()
		for x, n := range m.said {
			said[x] += n
		}
	}
	// The scripts are worth something only if each thing comes to pass in them.
	for _, x := range []string{"spawn", "despawn", "set", "add", "remove", "tick", "calm", "connect", "again", "leave", "kick", "look", "follow", "deliver", "copy", "drop", "turn",
		"off", "epoch 1", "entities", "error 5", "error 6", "error 7", "error 8", "error 10", "error 12", "error 14", "error 15", "error 16"} {
		if said[x] < 50 {
			t.Error("hardly any", x, said[x])
		}
	}
}

// journal is a script whose answers are read as they come: what was told of the world, by its ticks.
type journal struct {
	t     *testing.T
	d     dice
	lines []string
	epoch int
	tick  int // that of the client's last answer in this epoch
	told  int
}

// answers is those of the script's last lines.
func (j *journal) answers(lines ...string) []string {
	j.t.Helper()
	j.lines = append(j.lines, lines...)
	s, e := shell.Run(strings.Join(j.lines, "\n"))
	if e != api.OK || strings.Count(s, "\n") != len(j.lines) {
		j.t.Fatal(e, s, j.lines)
	}
	l := strings.Split(strings.TrimSuffix(s, "\n"), "\n")
	return l[len(l)-len(lines):]
}

// mischief is something that may happen to a client and what it is sent; no bits are turned twice, since each datagram that is spoilt is lost then.
func (j *journal) mischief() []string {
	switch j.d.throw(12) {
	case 0:
		return []string{"drop 0"}
	case 1:
		return []string{fmt.Sprintf("copy %d", j.d.throw(3))}
	case 2:
		return []string{fmt.Sprintf("turn 0 %d %d", j.d.throw(40), 1+2*j.d.throw(1<<20)), "deliver 0"}
	case 3:
		return []string{fmt.Sprintf("spawn pos %d %d vel %d 7 life %d", j.d.signed(9000), j.d.signed(9000), j.d.signed(50), 4+j.d.throw(20))}
	case 4:
		return []string{fmt.Sprintf("despawn %d", 1024*(1+j.d.throw(2))+j.d.throw(5))}
	case 5, 6, 7:
		return []string{"tick"}
	case 8:
		return []string{fmt.Sprintf("deliver %d", j.d.throw(4))}
	}
	return []string{"deliver 0"}
}

// Whatever happens on its way, a client has nothing, or just what the world was at a tick of its epoch (P4), and the tick rises; what is spoilt does nothing (P5); when it is calm it comes along (P6).
func TestAClientHasWhatItWasToHave(t *testing.T) {
	told := 0
	for seed := range 20 {
		j := &journal{t: t, d: dice(seed)}
		j.answers("connect 0", "deliver 0", "look 0 0 0 8")
		worlds := map[string]bool{}
		for range 120 {
			l := j.mischief()
			got := j.answers(append(l, "world", "client 0")...)
			world, client := got[len(l)], got[len(l)+1]
			worlds[byIDs(world)] = true
			if strings.HasPrefix(l[0], "turn") && got[0] == "ok" && got[1] != "error 6" {
				t.Fatal("what was spoilt was taken", l, got)
			}
			j.look(worlds, client)
		}
		calm := j.answers("calm 1", "drop 0", "calm 2", "world", "client 0")
		if client, ok := strings.CutPrefix(calm[4], "epoch 1 "); !ok || client != byIDs(calm[3]) {
			t.Fatal("it doesn't come along", calm)
		}
		told += j.told
	}
	if told < 300 {
		t.Error("hardly anything was told", told)
	}
}

// look tells that what the client has is one of the worlds, and none that is older than what it had.
func (j *journal) look(worlds map[string]bool, client string) {
	j.t.Helper()
	if client == "epoch 1" && j.told == 0 {
		return
	}
	has, ok := strings.CutPrefix(client, "epoch 1 ")
	tick := 0
	if _, e := fmt.Sscanf(has, "tick %d", &tick); !ok || e != nil || !worlds[has] || tick < j.tick {
		j.t.Fatal("it isn't what was to be told", client, j.lines)
	}
	if tick > j.tick {
		j.told++
	}
	j.tick = tick
}

// byIDs is what is told of a world, its entities by rising IDs, as they stand in a snapshot.
func byIDs(world string) string {
	l := strings.Split(world, "; ")
	id := func(s string) (n int) {
		fmt.Sscan(s, &n)
		return n
	}
	for i := range l[1:] {
		for k := i + 1; k > 1 && id(l[k]) < id(l[k-1]); k-- {
			l[k], l[k-1] = l[k-1], l[k]
		}
	}
	return strings.Join(l, "; ")
}
