package shell_test

import (
	"fmt"
	"math"
	"slices"
	"strings"
	"testing"

	"pinnace/api"
	"pinnace/shell"
	"pinnace/yard"
)

// script is lines, and what each of them is to be answered.
type script []struct{ line, answer string }

// mustRun runs a script as a whole, and all its beginnings too: what comes behind a line can't change its answer.
func mustRun(t *testing.T, l script) {
	t.Helper()
	text, want := "", ""
	for _, x := range l {
		text, want = text+x.line+"\n", want+x.answer+"\n"
		if s, e := shell.Run(text); e != api.OK || s != want {
			t.Fatalf("%q is answered %q, %d, not %q", text, s, e, want)
		}
	}
	if s, e := shell.Run(strings.TrimSuffix(text, "\n")); e != api.OK || s != want {
		t.Fatalf("without 0a at the end: %q, %d, not %q", s, e, want)
	}
}

// many is one line many times, each answered the same.
func many(n int, line, answer string) script {
	return slices.Repeat(script{{line, answer}}, n)
}

func TestExample(t *testing.T) {
	mustRun(t, script{
		{"spawn pos 0 0 life 9", "ok"},
		{"tick", "ok"},
		{"world", "tick 1; 1024 pos 0 0 life 8"},
	})
}

func TestConfig(t *testing.T) {
	c := shell.Config()
	h := c.Host
	if h.Slots != 40 || h.Gen != 1 || h.Tick != 0 || h.Room != 4 || h.K != 4 || h.Budget != 600 || c.Slots != 40 || c.Bag != 200 {
		t.Fatalf("%+v", c)
	}
	if y, e := yard.New(c); y == nil || e != api.OK {
		t.Fatal(e)
	}
}

// Run takes each of the Config's numbers.

func TestRunHasSlots(t *testing.T) {
	l := append(many(41, "spawn life 100", "ok"), script{{"tick", "ok"}, {"despawn 1024", "ok"}, {"spawn", "ok"}, {"tick", "ok"}}...)
	s := "tick 2; 2048"
	for i := range 39 {
		s += fmt.Sprintf("; %d life 98", 1025+i)
	}
	mustRun(t, append(l, script{{"world", s}}...))
}

func TestRunHasRoom(t *testing.T) {
	var l script
	for i := range 4 {
		l = append(l, script{{fmt.Sprint("connect ", i), "ok"}, {"deliver 0", "ok"}}...)
	}
	mustRun(t, append(l, script{{"connect 4", "ok"}, {"deliver 0", "error 8"}, {"kick 2", "ok"}, {"again 4", "ok"}, {"deliver 1", "ok"}}...))
}

func TestRunHasABag(t *testing.T) {
	l := append(many(200, "connect 0", "ok"), script{{"bag", "200"}, {"connect 0", "ok"}, {"bag", "200"}, {"copy 0", "error 8"}}...)
	// The epochs rise, so that each is news to the server.
	l = append(l, many(200, "deliver 0", "ok")...)
	mustRun(t, append(l, script{{"bag", "0"}, {"client 0", "epoch 201"}, {"tick", "ok"}, {"deliver 0", "error 14"}}...))
}

// A client is sent what has room in 600 bytes, and nothing that hasn't.
func TestRunHasABudget(t *testing.T) {
	l := script{{"connect 0", "ok"}, {"deliver 0", "ok"}, {"look 0 0 0 8", "ok"}}
	front := len(l)
	l = append(l, many(40, "spawn pos 1 1 vel 0 0 body 15 1000 100 tag 7 255 31", "ok")...)
	mustRun(t, append(slices.Clone(l), script{{"tick", "ok"}, {"bag", "0"}, {"calm 3", "ok"}, {"client 0", "epoch 1"}}...))
	// Of few of them there is something to tell: it has room, and the others come as Steps.
	l = append(l[:front+10:front+10], script{{"tick", "ok"}, {"bag", "1"}, {"deliver 0", "ok"}, {"deliver 0", "ok"}}...)
	l = append(l, many(30, "spawn pos 1 1 vel 0 0 body 15 1000 100 tag 7 255 31", "ok")...)
	s := "epoch 1 tick 2"
	for i := range 40 {
		s += fmt.Sprintf("; %d pos 1 1 vel 0 0 body 15 1000 100 tag 7 255 31", 1024+i)
	}
	mustRun(t, append(l, script{{"calm 1", "ok"}, {"client 0", s}}...))
}

// The server holds four snapshots of a client's: what was sent before these can't be said to be had any more.
func TestRunHoldsFourSnapshots(t *testing.T) {
	l := script{{"connect 0", "ok"}, {"deliver 0", "ok"}, {"look 0 0 0 8", "ok"}, {"tick", "ok"}, {"deliver 0", "ok"}, {"bag", "1"}}
	held := append(append(slices.Clone(l), many(3, "tick", "ok")...), script{{"deliver 0", "ok"}, {"bag", "3"}}...)
	mustRun(t, held)
	gone := append(append(slices.Clone(l), many(4, "tick", "ok")...), script{{"deliver 0", "error 10"}, {"bag", "4"}}...)
	mustRun(t, gone)
}

func TestRunIsInANewYard(t *testing.T) {
	const text = "connect 0\ndeliver 0\nlook 0 0 0 1\nspawn pos 5 5\ncalm 3\nworld\nclient 0\nbag\n"
	want := "ok\nok\nok\nok\nok\ntick 3; 1024 pos 5 5\nepoch 1 tick 3; 1024 pos 5 5\n0\n"
	for range 3 {
		if s, e := shell.Run(text); e != api.OK || s != want {
			t.Fatal(s, e)
		}
		if s, e := shell.Run("world\nclient 0\nbag"); e != api.OK || s != "tick 0\noff\n0\n" {
			t.Fatal(s, e)
		}
	}
}

// Lines of a text.

func TestEndsOfLines(t *testing.T) {
	for _, x := range []struct{ text, want string }{
		{"", ""},
		{"\n", "error 16\n"},
		{"\n\n", "error 16\nerror 16\n"},
		{"\n\n\n\n\n", strings.Repeat("error 16\n", 5)},
		{"tick", "ok\n"},
		{"tick\n", "ok\n"},
		{"tick\n\n", "ok\nerror 16\n"},
		{"\ntick", "error 16\nok\n"},
		{"\ntick\n", "error 16\nok\n"},
		{"tick\nworld", "ok\ntick 1\n"},
		{"tick\nworld\n", "ok\ntick 1\n"},
		{"tick\n\nworld", "ok\nerror 16\ntick 1\n"},
		{"tick\n\n\ntick\nworld\n\n", "ok\nerror 16\nerror 16\nok\ntick 2\nerror 16\n"},
		{"tick world", "error 16\n"},
		{"tick\r\nworld\r\n", "error 16\nerror 16\n"},
		{"tick\rworld", "error 16\n"},
		{"tick\n world", "ok\nerror 16\n"},
		{"tick \nworld", "error 16\ntick 0\n"},
		{"tick\x00world", "error 16\n"},
		{" ", "error 16\n"},
		{" \n", "error 16\n"},
		{"x", "error 16\n"},
		{"\xff\n\xfe", "error 16\nerror 16\n"},
		{"world\nworld", "tick 0\ntick 0\n"},
		{"bag", "0\n"},
	} {
		if s, e := shell.Run(x.text); e != api.OK || s != x.want {
			t.Errorf("Run(%q) = %q, %d, not %q", x.text, s, e, x.want)
		}
	}
}

func TestMaxText(t *testing.T) {
	const most = 20000
	for _, x := range []struct{ text, want string }{
		{strings.Repeat("\n", most), strings.Repeat("error 16\n", most)},
		{strings.Repeat("x", most), "error 16\n"},
		{strings.Repeat("bag\n", most/4), strings.Repeat("0\n", most/4)},
		{strings.Repeat("\xc3\xa4", most/2), "error 16\n"},
		{strings.Repeat(" ", most-4) + "\nbag", "error 16\n0\n"},
		{"spawn" + strings.Repeat(" life 5", (most-5)/7) + strings.Repeat(" ", (most-5)%7), "error 16\n"},
	} {
		if len(x.text) != most {
			t.Fatal(len(x.text))
		}
		if s, e := shell.Run(x.text); e != api.OK || s != x.want {
			t.Errorf("a text of %q.. is answered %.40q, %d", x.text[:9], s, e)
		}
		for _, more := range []string{"\n", "x", " ", x.text} {
			if s, e := shell.Run(x.text + more); e != api.ErrLong || s != "" {
				t.Errorf("a longer text of %q.. is answered %.40q, %d", x.text[:9], s, e)
			}
		}
		if s, e := shell.Run(x.text[:most-1]); e != api.OK || s == "" {
			t.Errorf("a shorter text of %q.. is answered %.40q, %d", x.text[:9], s, e)
		}
	}
	// It is bytes that are counted, and not characters.
	if s, e := shell.Run(strings.Repeat("\u20ac", most/2)); e != api.ErrLong || s != "" {
		t.Fatal(s, e)
	}
	if s, e := shell.Run(strings.Repeat("x", 1<<24)); e != api.ErrLong || s != "" {
		t.Fatal(s, e)
	}
}

// What each line does, and the errors of its step.

func TestOrders(t *testing.T) {
	mustRun(t, script{
		{"spawn", "ok"},
		{"spawn pos 0 0 vel 5 -5", "ok"},
		{"spawn life 4", "ok"},
		{"world", "tick 0"},
		{"tick", "ok"},
		{"world", "tick 1; 1024; 1025 pos 5 -5 vel 5 -5; 1026 life 3"},
		{"add 1024 tag 1 2 3", "ok"},
		{"set 1025 vel 1 1", "ok"},
		{"remove 1026 life", "ok"},
		{"tick", "ok"},
		{"world", "tick 2; 1024 tag 1 2 3; 1025 pos 6 -4 vel 1 1; 1026"},
		{"despawn 1025", "ok"},
		{"despawn 1025", "ok"}, // it is refused at the tick, of which nothing is told here
		{"remove 1026 spawn", "ok"},
		{"despawn 4294967295", "ok"},
		{"despawn 0", "ok"},
		{"tick", "ok"},
		{"world", "tick 3; 1024 tag 1 2 3; 1026"},
		{"spawn body 1 2 3 spawn 2 0 7", "ok"},
		{"tick", "ok"},
		{"world", "tick 4; 1024 tag 1 2 3; 2049 body 1 2 3 spawn 2 0 7; 1026"},
		{"spawn pos 1 1 life 4096", "error 5"},
		{"set 1024 life -1", "error 5"},
		{"add 1024 body 1 1 0", "error 5"},
		{"spawn life 5 life 5", "error 4"},
		{"spawn life 5 pos 1 1", "error 4"},
		{"spawn life 4096 pos 1 1", "error 5"},
		{"tick", "ok"},
		{"world", "tick 5; 1024 tag 1 2 3; 2049 body 1 2 3 spawn 2 0 7; 1026"},
	})
}

func TestTooManyOrders(t *testing.T) {
	l := append(many(256, "despawn 1024", "ok"), script{{"despawn 1024", "error 8"}, {"spawn life 9999", "error 5"}, {"spawn", "error 8"}}...)
	mustRun(t, append(l, script{{"tick", "ok"}, {"spawn", "ok"}, {"tick", "ok"}, {"world", "tick 2; 1024"}}...))
}

func TestSessions(t *testing.T) {
	mustRun(t, script{
		{"client 3", "off"},
		{"connect 3", "ok"},
		{"client 3", "epoch 1"},
		{"bag", "1"},
		{"again 3", "ok"},
		{"bag", "2"},
		{"look 3 0 0 1", "error 10"},
		{"follow 3 1024 1", "error 10"},
		{"kick 3", "error 10"},
		{"deliver 0", "ok"},
		{"deliver 0", "error 12"},
		{"bag", "0"},
		{"look 3 0 0 1", "ok"},
		{"follow 3 1024 1", "error 7"},
		{"spawn pos 9 9", "ok"},
		{"tick", "ok"},
		{"follow 3 1024 0", "ok"},
		{"client 3", "epoch 1"},
		{"deliver 0", "ok"},
		{"client 3", "epoch 1 tick 1; 1024 pos 9 9"},
		{"again 3", "error 15"},
		{"leave 3", "ok"},
		{"client 3", "off"},
		{"leave 3", "error 15"},
		{"again 3", "error 15"},
		{"bag", "2"},
		{"deliver 1", "ok"},
		{"deliver 0", "error 10"},
		{"connect 3", "ok"},
		{"client 3", "epoch 2"},
		{"deliver 0", "ok"},
		{"kick 3", "ok"},
		{"bag", "1"},
		{"deliver 0", "ok"},
		{"client 3", "off"},
		{"kick 3", "error 10"},
		{"world", "tick 1; 1024 pos 9 9"},
	})
}

// What is of an epoch that is over is refused, and nothing changes.
func TestOldEpochs(t *testing.T) {
	mustRun(t, script{
		{"connect 0", "ok"},
		{"deliver 0", "ok"},
		{"tick", "ok"},
		{"copy 0", "ok"},
		{"deliver 0", "ok"},
		{"connect 0", "ok"},
		{"deliver 2", "ok"},
		{"bag", "2"},
		{"deliver 1", "error 14"},
		{"deliver 0", "error 14"},
		{"client 0", "epoch 2"},
		{"tick", "ok"},
		{"deliver 0", "ok"},
		{"client 0", "epoch 2 tick 2"},
	})
}

func TestNoSuchClients(t *testing.T) {
	var l script
	for _, c := range []string{"-1", "16", "-999999999", "999999999", "256", "-16"} {
		for _, word := range []string{"client", "connect", "again", "leave", "kick"} {
			l = append(l, script{{word + " " + c, "error 1"}}...)
		}
		l = append(l, script{{"look " + c + " 0 0 1", "error 1"}, {"follow " + c + " 1024 1", "error 1"}}...)
	}
	mustRun(t, append(l, script{{"bag", "0"}, {"world", "tick 0"}}...))
}

func TestRegions(t *testing.T) {
	l := script{{"connect 0", "ok"}, {"deliver 0", "ok"}, {"spawn pos 0 0", "ok"}, {"spawn pos -1 16384", "ok"}, {"spawn life 50", "ok"}}
	for _, x := range []struct{ region, answer, ents string }{
		{"0 0 0", "ok", "; 1024 pos 0 0"},
		{"-1 1 0", "ok", "; 1025 pos -1 16384"},
		{"0 0 1", "ok", "; 1024 pos 0 0; 1025 pos -1 16384"},
		{"31 31 8", "ok", ""},
		{"-32 -32 0", "ok", ""},
		{"0 0 8", "ok", "; 1024 pos 0 0; 1025 pos -1 16384"},
		{"0 0 9", "error 1", "; 1024 pos 0 0; 1025 pos -1 16384"},
		{"0 0 -1", "error 1", "; 1024 pos 0 0; 1025 pos -1 16384"},
		{"32 0 1", "error 1", "; 1024 pos 0 0; 1025 pos -1 16384"},
		{"0 -33 1", "error 1", "; 1024 pos 0 0; 1025 pos -1 16384"},
		{"1 0 0", "ok", ""},
	} {
		tick := (len(l)-5)/3 + 1
		l = append(l, script{{"look 0 " + x.region, x.answer}, {"calm 1", "ok"}, {"client 0", fmt.Sprintf("epoch 1 tick %d%s", tick, x.ents)}}...)
	}
	mustRun(t, l)
}

func TestFollow(t *testing.T) {
	mustRun(t, script{
		{"connect 15", "ok"},
		{"calm 1", "ok"},
		{"client 15", "epoch 1"}, // its session began when the tick was over
		{"spawn pos 0 0 vel 16384 0", "ok"},
		{"spawn pos 40000 0", "ok"},
		{"calm 1", "ok"},
		{"client 15", "epoch 1 tick 2"},
		{"follow 15 1024 -1", "error 1"},
		{"follow 15 1024 9", "error 1"},
		{"follow 15 1026 1", "error 7"},
		{"follow 15 0 1", "error 7"},
		{"follow 15 4294967295 1", "error 7"},
		{"follow 15 1024 0", "ok"},
		{"calm 1", "ok"},
		{"client 15", "epoch 1 tick 3; 1024 pos 32768 0 vel 16384 0; 1025 pos 40000 0"},
		{"calm 1", "ok"},
		{"client 15", "epoch 1 tick 4; 1024 pos 49152 0 vel 16384 0"},
		{"follow 15 1024 1", "ok"},
		{"calm 1", "ok"},
		{"client 15", "epoch 1 tick 5; 1024 pos 65536 0 vel 16384 0"},
		{"despawn 1024", "ok"},
		{"calm 1", "ok"},
		{"client 15", "epoch 1 tick 6"},
	})
}

func TestBag(t *testing.T) {
	none := script{}
	for _, i := range []string{"0", "-1", "1", "999999999", "-999999999", "200", "199"} {
		for _, line := range []string{"deliver " + i, "copy " + i, "drop " + i, "turn " + i + " 0 1"} {
			none = append(none, script{{line, "error 10"}}...)
		}
	}
	mustRun(t, append(none, script{{"bag", "0"}}...))
	mustRun(t, script{
		{"connect 0", "ok"},
		{"connect 1", "ok"},
		{"copy 1", "ok"},
		{"bag", "3"},
		{"drop 0", "ok"},
		{"bag", "2"},
		{"turn 0 3 1", "ok"},
		{"bag", "2"},
		{"deliver 0", "error 6"},
		{"deliver 0", "ok"},
		{"bag", "0"},
		{"look 1 0 0 1", "ok"},
		{"look 0 0 0 1", "error 10"},
		{"deliver 0", "error 10"},
	})
}

// Turn takes its numbers in this order: bits beyond the frame, on either side, aren't looked at.
func TestTurn(t *testing.T) {
	front := script{{"connect 0", "ok"}, {"copy 0", "ok"}}
	for _, x := range []struct{ turn, answer string }{
		{"turn 0 0 1", "error 6"}, {"turn 0 0 -1", "error 6"}, {"turn 0 0 0", "ok"}, {"turn 0 -31 -999999999", "error 6"}, {"turn 0 -31 999999999", "ok"},
		{"turn 0 -32 -1", "ok"}, {"turn 0 999999999 -1", "ok"}, {"turn 0 -999999999 -1", "ok"}, {"turn 1 0 1", "ok"}, {"turn 0 1 1", "error 6"},
		{"turn 0 -1 1", "ok"}, {"turn 0 -1 2", "error 6"}, {"turn 0 -31 -1", "error 6"}, {"turn 0 -1 -2", "error 6"},
	} {
		mustRun(t, append(slices.Clone(front), script{{x.turn, "ok"}, {"deliver 0", x.answer}}...))
	}
	mustRun(t, append(front, script{{"turn 1 0 1", "ok"}, {"turn 2 0 1", "error 10"}, {"turn 1 0 1", "ok"}, {"drop 0", "ok"}, {"deliver 0", "ok"}}...))
}

func TestTicks(t *testing.T) {
	mustRun(t, script{
		{"calm -1", "error 1"}, {"calm 101", "error 1"}, {"calm 999999999", "error 1"}, {"world", "tick 0"},
		{"calm 0", "ok"}, {"world", "tick 0"}, {"calm 100", "ok"}, {"world", "tick 100"}, {"tick", "ok"}, {"world", "tick 101"}, {"calm 1", "ok"}, {"world", "tick 102"},
	})
	// A Tick leaves what is sent under way, a Calm doesn't.
	mustRun(t, script{
		{"connect 0", "ok"}, {"tick", "ok"}, {"bag", "1"}, {"calm 0", "ok"}, {"bag", "1"}, {"calm 1", "ok"}, {"bag", "0"}, {"client 0", "epoch 1"},
		{"tick", "ok"}, {"bag", "1"}, {"client 0", "epoch 1"}, {"calm 2", "ok"}, {"client 0", "epoch 1 tick 5"}, {"bag", "0"},
	})
}

// A client reads what it was told by the server's numbers, and no spawn: clients aren't told of these.
func TestWhatAClientReads(t *testing.T) {
	mustRun(t, script{
		{"spawn pos 1 1", "ok"},
		{"tick", "ok"},
		{"despawn 1024", "ok"},
		{"connect 2", "ok"},
		{"deliver 0", "ok"},
		{"look 2 0 0 0", "ok"},
		{"calm 1", "ok"},
		{"spawn pos 2 2 life 9 spawn 200 200 1", "ok"},
		{"spawn life 9", "ok"},
		{"calm 1", "ok"},
		{"world", "tick 3; 2048 pos 2 2 life 8 spawn 200 199 1; 1025 life 8"},
		{"client 2", "epoch 1 tick 3; 2048 pos 2 2 life 8"},
		{"bag", "0"},
	})
}

// A line that is none does nothing, and hinders nothing.
func TestWrongLinesDoNothing(t *testing.T) {
	l := script{}
	for _, line := range []string{"tick 1", "spawn life", "despawn 01", "connect +1", "calm 0100", "Tick", " tick", "tick ", "", "inject 0 00"} {
		l = append(l, script{{line, "error 16"}, {"world", "tick 0"}, {"bag", "0"}}...)
	}
	mustRun(t, append(l, script{{"tick", "ok"}, {"world", "tick 1"}}...))
}

// Text.

func ent(id api.ID, l ...api.Comp) api.Ent { return api.Ent{ID: id, Comps: l} }

func TestText(t *testing.T) {
	for _, x := range []struct {
		l    []api.Ent
		want string
	}{
		{nil, ""},
		{[]api.Ent{}, ""},
		{[]api.Ent{ent(5)}, "; 5"},
		{[]api.Ent{{ID: 5, Comps: []api.Comp{}}}, "; 5"},
		{[]api.Ent{ent(0), ent(math.MaxUint32), ent(1024)}, "; 0; 4294967295; 1024"},
		{[]api.Ent{ent(5, comp(api.Pos, 1, 2))}, "; 5 pos 1 2"},
		{[]api.Ent{ent(5, comp(api.Vel, -1, -2))}, "; 5 vel -1 -2"},
		{[]api.Ent{ent(5, comp(api.Life, 0))}, "; 5 life 0"},
		{[]api.Ent{ent(5, comp(api.Body, 1, 2, 3))}, "; 5 body 1 2 3"},
		{[]api.Ent{ent(5, comp(api.Tag, 1, 2, 3))}, "; 5 tag 1 2 3"},
		{[]api.Ent{ent(5, comp(api.Spawn, 1, 2, 3))}, "; 5 spawn 1 2 3"},
		{[]api.Ent{ent(5, comp(api.Pos, math.MinInt32, math.MaxInt32))}, "; 5 pos -2147483648 2147483647"},
		{[]api.Ent{ent(5, comp(api.Pos, -524288, 524287), comp(api.Life, 4095))}, "; 5 pos -524288 524287 life 4095"},
		{[]api.Ent{ent(5, comp(api.Life, 7)), ent(4), ent(6, comp(api.Tag), comp(api.Pos, 1))}, "; 5 life 7; 4; 6 tag 0 0 0 pos 1 0"},
		// What isn't a field of its kind isn't told.
		{[]api.Ent{ent(5, comp(api.Life, 7, 8, 9), comp(api.Pos, 1, 2, 3))}, "; 5 life 7 pos 1 2"},
		// A component of no kind is nothing, wherever it stands.
		{[]api.Ent{ent(5, comp(6))}, "; 5"},
		{[]api.Ent{ent(5, comp(255, 1, 2, 3))}, "; 5"},
		{[]api.Ent{ent(5, comp(6, 1, 2, 3), comp(api.Life, 7), comp(128), comp(api.Life, 8), comp(7))}, "; 5 life 7 life 8"},
		{[]api.Ent{ent(5, comp(9)), ent(5, comp(9))}, "; 5; 5"},
	} {
		if s := shell.Text(x.l); s != x.want {
			t.Errorf("Text(%v) = %q, not %q", x.l, s, x.want)
		}
	}
	for kind := api.Kinds; kind < 256; kind++ {
		if s := shell.Text([]api.Ent{ent(5, comp(byte(kind), 1, 2, 3))}); s != "; 5" {
			t.Errorf("kind %d: %q", kind, s)
		}
	}
}

func TestTextOfMany(t *testing.T) {
	x := ent(math.MaxUint32, comp(api.Pos, -524288, -524288))
	want := "; 4294967295 pos -524288 -524288"
	if s := shell.Text(slices.Repeat([]api.Ent{x}, 50000)); s != strings.Repeat(want, 50000) {
		t.Fatal(len(s))
	}
	x.Comps = slices.Repeat(x.Comps, 50000)
	if s := shell.Text([]api.Ent{x}); s != "; 4294967295"+strings.Repeat(" pos -524288 -524288", 50000) {
		t.Fatal(len(s))
	}
}

// What is handed in is not changed, its spare room neither, and not kept.
func TestTextKeepsNothing(t *testing.T) {
	spare := []api.Comp{comp(api.Pos, 1, 2), comp(api.Life, 3), comp(api.Tag, 4, 5, 6)}
	l := []api.Ent{{ID: 5, Comps: spare[:2]}, {ID: 6, Comps: spare[2:]}, ent(7, comp(6, 1))}
	const want = "; 5 pos 1 2 life 3; 6 tag 4 5 6"
	for range 2 {
		if s := shell.Text(l[:2]); s != want {
			t.Fatal(s)
		}
	}
	if !slices.Equal(spare, []api.Comp{comp(api.Pos, 1, 2), comp(api.Life, 3), comp(api.Tag, 4, 5, 6)}) || l[0].ID != 5 || l[1].ID != 6 || l[2].ID != 7 ||
		len(l[0].Comps) != 2 || len(l[1].Comps) != 1 || l[2].Comps[0] != comp(6, 1) {
		t.Fatal(l, spare)
	}
	s := shell.Text(l[:2])
	spare[0], spare[2], l[0].ID = comp(api.Vel, 9, 9), comp(api.Life, 9), 99
	if s != want {
		t.Fatal(s)
	}
	if s := shell.Text(l[:2]); s != "; 99 vel 9 9 life 3; 6 life 9" {
		t.Fatal(s)
	}
}

// What is told of a world is lines by which it can be made again.
func TestTextIsWordsOfLines(t *testing.T) {
	l := []api.Comp{comp(api.Pos, -5, 5), comp(api.Vel, 3, -4), comp(api.Life, 5), comp(api.Body, 6, 7, 8), comp(api.Tag, 1, 2, 3), comp(api.Spawn, 9, 8, 7)}
	for i := range 1 << len(l) {
		var some []api.Comp
		for k, c := range l {
			if i>>k&1 == 1 {
				some = append(some, c)
			}
		}
		mustParse(t, "spawn"+strings.TrimPrefix(shell.Text([]api.Ent{ent(7, some...)}), "; 7"), spawn(some...))
	}
}
