package shell_test

import (
	"math"
	"slices"
	"strings"
	"testing"

	"pinnace/api"
	"pinnace/shell"
	"pinnace/yard"
)

func comp(kind byte, f ...int32) api.Comp {
	c := api.Comp{Kind: kind}
	copy(c.F[:], f)
	return c
}

func order(do byte, id api.ID, kind byte, l ...api.Comp) yard.Step {
	return yard.Step{Kind: yard.Order, Order: api.Order{Do: do, ID: id, Kind: kind, Comps: l}}
}

func spawn(l ...api.Comp) yard.Step { return order(api.DoSpawn, 0, 0, l...) }

// sameStep tells whether two steps are the same in every field.
func sameStep(x, y yard.Step) bool {
	return x.Kind == y.Kind && x.Client == y.Client && x.Region == y.Region && x.ID == y.ID && x.R == y.R &&
		x.I == y.I && x.At == y.At && x.Pattern == y.Pattern && slices.Equal(x.Bytes, y.Bytes) &&
		x.Order.Do == y.Order.Do && x.Order.ID == y.Order.ID && x.Order.Kind == y.Order.Kind && slices.Equal(x.Order.Comps, y.Order.Comps)
}

func mustParse(t *testing.T, line string, want yard.Step) {
	t.Helper()
	if s, e := shell.Parse(line); e != api.OK || !sameStep(s, want) {
		t.Fatalf("Parse(%q) = %+v, %d, not %+v", line, s, e, want)
	}
}

// mustRefuse tells that a line is none, neither a step nor a question.
func mustRefuse(t *testing.T, line string) {
	t.Helper()
	mustBeNoStep(t, line)
	if strings.Contains(line, "\n") {
		return
	}
	if s, e := shell.Run(line + "\n"); e != api.OK || s != "error 16\n" {
		t.Fatalf("Run(%q) = %q, %d", line, s, e)
	}
}

func mustBeNoStep(t *testing.T, line string) {
	t.Helper()
	if s, e := shell.Parse(line); e != api.ErrText || !sameStep(s, yard.Step{}) {
		t.Fatalf("Parse(%q) = %+v, %d", line, s, e)
	}
}

// right is lines that are steps: each line of the table, and each kind and name of a component.
var right = []struct {
	line string
	want yard.Step
}{
	{"spawn", spawn()},
	{"spawn pos 1 2", spawn(comp(api.Pos, 1, 2))},
	{"spawn vel 3 4", spawn(comp(api.Vel, 3, 4))},
	{"spawn life 5", spawn(comp(api.Life, 5))},
	{"spawn body 6 7 8", spawn(comp(api.Body, 6, 7, 8))},
	{"spawn tag 1 2 3", spawn(comp(api.Tag, 1, 2, 3))},
	{"spawn spawn 9 8 7", spawn(comp(api.Spawn, 9, 8, 7))},
	{"spawn pos 0 0 life 9", spawn(comp(api.Pos), comp(api.Life, 9))},
	{"spawn pos 1 2 vel 3 4 life 5 body 6 7 8 tag 1 2 3 spawn 9 8 7",
		spawn(comp(api.Pos, 1, 2), comp(api.Vel, 3, 4), comp(api.Life, 5), comp(api.Body, 6, 7, 8), comp(api.Tag, 1, 2, 3), comp(api.Spawn, 9, 8, 7))},
	{"spawn life 5 life 5", spawn(comp(api.Life, 5), comp(api.Life, 5))},
	{"spawn life 5 pos 2 1", spawn(comp(api.Life, 5), comp(api.Pos, 2, 1))},
	{"despawn 1024", order(api.DoDespawn, 1024, 0)},
	{"set 1024 pos 1 2", order(api.DoSet, 1024, 0, comp(api.Pos, 1, 2))},
	{"set 1024 vel 3 4", order(api.DoSet, 1024, 0, comp(api.Vel, 3, 4))},
	{"set 1024 life 5", order(api.DoSet, 1024, 0, comp(api.Life, 5))},
	{"set 1024 body 6 7 8", order(api.DoSet, 1024, 0, comp(api.Body, 6, 7, 8))},
	{"set 1024 tag 1 2 3", order(api.DoSet, 1024, 0, comp(api.Tag, 1, 2, 3))},
	{"set 1024 spawn 9 8 7", order(api.DoSet, 1024, 0, comp(api.Spawn, 9, 8, 7))},
	{"add 1025 pos 1 2", order(api.DoAdd, 1025, 0, comp(api.Pos, 1, 2))},
	{"add 1025 vel 3 4", order(api.DoAdd, 1025, 0, comp(api.Vel, 3, 4))},
	{"add 1025 life 5", order(api.DoAdd, 1025, 0, comp(api.Life, 5))},
	{"add 1025 body 6 7 8", order(api.DoAdd, 1025, 0, comp(api.Body, 6, 7, 8))},
	{"add 1025 tag 1 2 3", order(api.DoAdd, 1025, 0, comp(api.Tag, 1, 2, 3))},
	{"add 1025 spawn 9 8 7", order(api.DoAdd, 1025, 0, comp(api.Spawn, 9, 8, 7))},
	{"remove 1026 pos", order(api.DoRemove, 1026, api.Pos)},
	{"remove 1026 vel", order(api.DoRemove, 1026, api.Vel)},
	{"remove 1026 life", order(api.DoRemove, 1026, api.Life)},
	{"remove 1026 body", order(api.DoRemove, 1026, api.Body)},
	{"remove 1026 tag", order(api.DoRemove, 1026, api.Tag)},
	{"remove 1026 spawn", order(api.DoRemove, 1026, api.Spawn)},
	{"tick", yard.Step{Kind: yard.Tick}},
	{"calm 7", yard.Step{Kind: yard.Calm, I: 7}},
	{"connect 3", yard.Step{Kind: yard.Connect, Client: 3}},
	{"again 3", yard.Step{Kind: yard.Again, Client: 3}},
	{"leave 3", yard.Step{Kind: yard.Leave, Client: 3}},
	{"kick 3", yard.Step{Kind: yard.Kick, Client: 3}},
	{"look 3 -4 5 6", yard.Step{Kind: yard.Look, Client: 3, Region: api.Region{On: true, CX: -4, CY: 5, R: 6}}},
	{"follow 3 1027 2", yard.Step{Kind: yard.Follow, Client: 3, ID: 1027, R: 2}},
	{"deliver 4", yard.Step{Kind: yard.Deliver, I: 4}},
	{"copy 4", yard.Step{Kind: yard.Copy, I: 4}},
	{"drop 4", yard.Step{Kind: yard.Drop, I: 4}},
	{"turn 4 9 5", yard.Step{Kind: yard.Turn, I: 4, At: 9, Pattern: 5}},
}

// questions is lines that are none of a step, and are answered all the same.
var questions = []string{"world", "client 0", "client 15", "client 16", "client -1", "bag"}

func TestParse(t *testing.T) {
	for _, x := range right {
		mustParse(t, x.line, x.want)
	}
}

func TestQuestionsAreNoSteps(t *testing.T) {
	for _, line := range questions {
		mustBeNoStep(t, line)
		if s, e := shell.Run(line); e != api.OK || strings.Contains(s, "error 16") {
			t.Fatal(line, s, e)
		}
	}
}

// lines is all lines that are right, the questions too.
func lines() []string {
	var l []string
	for _, x := range right {
		l = append(l, x.line)
	}
	return append(l, questions...)
}

// Numbers. Each of these is tried at each place where a number stands.

var numbers = []struct {
	word string
	n    int
}{
	{"0", 0}, {"1", 1}, {"9", 9}, {"10", 10}, {"100", 100}, {"-1", -1}, {"-9", -9}, {"-10", -10}, {"1234567890"[:9], 123456789},
	{"999999999", 999999999}, {"-999999999", -999999999}, {"100000000", 100000000}, {"-100000000", -100000000}, {"-524288", -524288}, {"4096", 4096},
}

var noNumbers = []string{
	"-0", "00", "01", "-00", "-01", "001", "000000000", "000000001", "0000000001", "+1", "+0", "+", "-", "--1", "-+1", "+-1", "-1-", "1-", "1-1",
	"1000000000", "-1000000000", "9999999999", "-9999999999", "2147483648", "4294967295", "99999999999999999999", "18446744073709551616", "9223372036854775808",
	"1.", ".1", "1.0", "1e1", "0x1", "0b1", "0o7", "1_0", "a", "x1", "1x", "1a1", "one", "pos", "life", "1,", "'1'", "\"1\"", "(1)", "1/", "1:", "/", ":", "$1",
	"\x001", "1\x00", "\x00", "1\r", "\t1", "1\t", "\v1", "1\n", "\n", "\u0661", "\u0967", "\uff11", "\u22121", "\u00a01", "\xff", "1\xff", "\xb1", "\xb0",
}

// atNumbers is each line in which numbers stand, with %N in the place of one of them, and how the step has it then.
var atNumbers = []struct {
	line string
	want func(n int) yard.Step
}{
	{"calm %N", func(n int) yard.Step { return yard.Step{Kind: yard.Calm, I: n} }},
	{"connect %N", func(n int) yard.Step { return yard.Step{Kind: yard.Connect, Client: n} }},
	{"again %N", func(n int) yard.Step { return yard.Step{Kind: yard.Again, Client: n} }},
	{"leave %N", func(n int) yard.Step { return yard.Step{Kind: yard.Leave, Client: n} }},
	{"kick %N", func(n int) yard.Step { return yard.Step{Kind: yard.Kick, Client: n} }},
	{"look %N 1 2 3", func(n int) yard.Step {
		return yard.Step{Kind: yard.Look, Client: n, Region: api.Region{On: true, CX: 1, CY: 2, R: 3}}
	}},
	{"look 1 %N 2 3", func(n int) yard.Step {
		return yard.Step{Kind: yard.Look, Client: 1, Region: api.Region{On: true, CX: n, CY: 2, R: 3}}
	}},
	{"look 1 2 %N 3", func(n int) yard.Step {
		return yard.Step{Kind: yard.Look, Client: 1, Region: api.Region{On: true, CX: 2, CY: n, R: 3}}
	}},
	{"look 1 2 3 %N", func(n int) yard.Step {
		return yard.Step{Kind: yard.Look, Client: 1, Region: api.Region{On: true, CX: 2, CY: 3, R: n}}
	}},
	{"follow %N 5 2", func(n int) yard.Step { return yard.Step{Kind: yard.Follow, Client: n, ID: 5, R: 2} }},
	{"follow 3 5 %N", func(n int) yard.Step { return yard.Step{Kind: yard.Follow, Client: 3, ID: 5, R: n} }},
	{"deliver %N", func(n int) yard.Step { return yard.Step{Kind: yard.Deliver, I: n} }},
	{"copy %N", func(n int) yard.Step { return yard.Step{Kind: yard.Copy, I: n} }},
	{"drop %N", func(n int) yard.Step { return yard.Step{Kind: yard.Drop, I: n} }},
	{"turn %N 1 2", func(n int) yard.Step { return yard.Step{Kind: yard.Turn, I: n, At: 1, Pattern: 2} }},
	{"turn 1 %N 2", func(n int) yard.Step { return yard.Step{Kind: yard.Turn, I: 1, At: n, Pattern: 2} }},
	{"turn 1 2 %N", func(n int) yard.Step { return yard.Step{Kind: yard.Turn, I: 1, At: 2, Pattern: uint32(n & 0xffffffff)} }},
	{"spawn life %N", func(n int) yard.Step { return spawn(comp(api.Life, int32(n))) }},
	{"spawn pos %N 2 life 3", func(n int) yard.Step { return spawn(comp(api.Pos, int32(n), 2), comp(api.Life, 3)) }},
	{"spawn pos 1 %N life 3", func(n int) yard.Step { return spawn(comp(api.Pos, 1, int32(n)), comp(api.Life, 3)) }},
	{"spawn pos 1 2 life %N", func(n int) yard.Step { return spawn(comp(api.Pos, 1, 2), comp(api.Life, int32(n))) }},
	{"set 5 vel %N 2", func(n int) yard.Step { return order(api.DoSet, 5, 0, comp(api.Vel, int32(n), 2)) }},
	{"set 5 vel 1 %N", func(n int) yard.Step { return order(api.DoSet, 5, 0, comp(api.Vel, 1, int32(n))) }},
	{"set 5 body %N 2 3", func(n int) yard.Step { return order(api.DoSet, 5, 0, comp(api.Body, int32(n), 2, 3)) }},
	{"set 5 body 1 %N 3", func(n int) yard.Step { return order(api.DoSet, 5, 0, comp(api.Body, 1, int32(n), 3)) }},
	{"set 5 body 1 2 %N", func(n int) yard.Step { return order(api.DoSet, 5, 0, comp(api.Body, 1, 2, int32(n))) }},
	{"add 5 tag %N 2 3", func(n int) yard.Step { return order(api.DoAdd, 5, 0, comp(api.Tag, int32(n), 2, 3)) }},
	{"add 5 tag 1 %N 3", func(n int) yard.Step { return order(api.DoAdd, 5, 0, comp(api.Tag, 1, int32(n), 3)) }},
	{"add 5 tag 1 2 %N", func(n int) yard.Step { return order(api.DoAdd, 5, 0, comp(api.Tag, 1, 2, int32(n))) }},
	{"add 5 spawn 1 2 %N", func(n int) yard.Step { return order(api.DoAdd, 5, 0, comp(api.Spawn, 1, 2, int32(n))) }},
}

func TestNumbers(t *testing.T) {
	for _, x := range atNumbers {
		for _, y := range numbers {
			mustParse(t, strings.ReplaceAll(x.line, "%N", y.word), x.want(y.n))
		}
		for _, word := range append(noNumbers, "") {
			mustRefuse(t, strings.ReplaceAll(x.line, "%N", word))
		}
	}
}

func TestNumbersOfQuestions(t *testing.T) {
	for _, x := range numbers {
		s, e := shell.Run("client " + x.word)
		want := "off\n"
		if x.n < 0 || x.n > 15 {
			want = "error 1\n"
		}
		if e != api.OK || s != want {
			t.Fatal(x.word, s, e)
		}
	}
	for _, word := range append(noNumbers, "") {
		mustRefuse(t, "client "+word)
	}
}

func TestPattern(t *testing.T) {
	for _, x := range []struct {
		word string
		want uint32
	}{
		{"0", 0}, {"1", 1}, {"-1", math.MaxUint32}, {"-2", math.MaxUint32 - 1}, {"-256", 0xffffff00}, {"-65536", 0xffff0000},
		{"999999999", 999999999}, {"-999999999", 3294967297},
	} {
		mustParse(t, "turn 1 2 "+x.word, yard.Step{Kind: yard.Turn, I: 1, At: 2, Pattern: x.want})
	}
}

// IDs.

var ids = []struct {
	word string
	id   api.ID
}{
	{"0", 0}, {"1", 1}, {"5", 5}, {"1024", 1024}, {"999999999", 999999999}, {"1000000000", 1000000000}, {"2147483647", 2147483647},
	{"2147483648", 2147483648}, {"4294967294", 4294967294}, {"4294967295", 4294967295},
}

var noIDs = []string{
	"", "-0", "-1", "-5", "-1024", "-4294967295", "00", "01", "0000000000", "0000000001", "00000000001", "+1", "+", "-", "4294967296", "4294967300", "5000000000",
	"9999999999", "10000000000", "42949672950", "18446744073709551616", "1.0", "1e3", "0x400", "1_024", "a", "1a", "pos", "\uff11", "1\x00", "1\t", "1\n", "1\r", "\xff",
}

var atIDs = []struct {
	line string
	want func(id api.ID) yard.Step
}{
	{"despawn %N", func(id api.ID) yard.Step { return order(api.DoDespawn, id, 0) }},
	{"set %N life 3", func(id api.ID) yard.Step { return order(api.DoSet, id, 0, comp(api.Life, 3)) }},
	{"add %N pos 1 2", func(id api.ID) yard.Step { return order(api.DoAdd, id, 0, comp(api.Pos, 1, 2)) }},
	{"remove %N tag", func(id api.ID) yard.Step { return order(api.DoRemove, id, api.Tag) }},
	{"follow 3 %N 2", func(id api.ID) yard.Step { return yard.Step{Kind: yard.Follow, Client: 3, ID: id, R: 2} }},
}

func TestIDs(t *testing.T) {
	for _, x := range atIDs {
		for _, y := range ids {
			mustParse(t, strings.ReplaceAll(x.line, "%N", y.word), x.want(y.id))
		}
		for _, word := range noIDs {
			mustRefuse(t, strings.ReplaceAll(x.line, "%N", word))
		}
	}
}

// Components.

// A component whose fields are outside their ranges is a component of a line all the same.
func TestComponentsThatTheLayersBelowRefuse(t *testing.T) {
	for _, x := range []struct {
		words  string
		c      api.Comp
		answer string
	}{
		{"pos 524288 0", comp(api.Pos, 524288, 0), "error 5\n"},
		{"pos 0 -524289", comp(api.Pos, 0, -524289), "error 5\n"},
		{"vel 32768 0", comp(api.Vel, 32768, 0), "error 5\n"},
		{"life -1", comp(api.Life, -1), "error 5\n"},
		{"life 4096", comp(api.Life, 4096), "error 5\n"},
		{"body 0 1001 5", comp(api.Body, 0, 1001, 5), "error 5\n"},
		{"body 0 0 0", comp(api.Body, 0, 0, 0), "error 5\n"},
		{"tag 8 0 0", comp(api.Tag, 8, 0, 0), "error 5\n"},
		{"spawn 0 0 0", comp(api.Spawn, 0, 0, 0), "error 5\n"},
		{"spawn 255 999999999 -999999999", comp(api.Spawn, 255, 999999999, -999999999), "error 5\n"},
		{"life 4095", comp(api.Life, 4095), "ok\n"},
		{"pos -524288 524287", comp(api.Pos, -524288, 524287), "ok\n"},
	} {
		mustParse(t, "spawn "+x.words, spawn(x.c))
		mustParse(t, "set 7 "+x.words, order(api.DoSet, 7, 0, x.c))
		mustParse(t, "add 7 "+x.words, order(api.DoAdd, 7, 0, x.c))
		for _, front := range []string{"spawn ", "set 7 ", "add 7 "} {
			if s, e := shell.Run(front + x.words); e != api.OK || s != x.answer {
				t.Fatal(front, x.words, s, e)
			}
		}
	}
	// Of several kinds in no rising order, too.
	for _, line := range []string{"spawn life 5 life 5", "spawn life 5 pos 1 2", "spawn pos 1 2 life 5 vel 1 1"} {
		if s, e := shell.Run(line); e != api.OK || s != "error 4\n" {
			t.Fatal(line, s, e)
		}
	}
}

func TestNoComponents(t *testing.T) {
	for _, words := range []string{
		"pos", "pos 1", "pos 1 2 3", "vel", "vel 1", "vel 1 2 3", "life", "life 1 2", "body", "body 1", "body 1 2", "body 1 2 3 4",
		"tag", "tag 1", "tag 1 2", "tag 1 2 3 4", "spawn", "spawn 1", "spawn 1 2", "spawn 1 2 3 4",
		"0", "1", "2 5", "6", "x 1", "left 5", "Life 5", "LIFE 5", "lif 5", "lifes 5", "life5", "life,5", "5 life", "life life", "life pos 1 2",
	} {
		for _, front := range []string{"spawn ", "spawn pos 1 2 ", "set 7 ", "add 7 "} {
			mustRefuse(t, front+words)
		}
		if words != "5 life" {
			mustRefuse(t, "spawn "+words+" life 5")
		}
	}
	for _, line := range []string{
		"set", "add", "set 7", "add 7", "set life 5", "add life 5", "set 7 life 5 life 5", "set 7 pos 1 2 life 5", "add 7 pos 1 2 life 5",
		"remove", "remove 7", "remove pos", "remove 7 0", "remove 7 x", "remove 7 Pos", "remove 7 pos 1 2", "remove 7 pos vel", "remove 7 pos 1", "remove pos 7",
	} {
		mustRefuse(t, line)
	}
}

// Lines.

// Of each line that is right what is nearly the same is none.
func TestWordsStandApart(t *testing.T) {
	for _, line := range lines() {
		words := strings.Split(line, " ")
		for _, wrong := range []string{" " + line, line + " ", "  " + line, line + "  ", line + "\n", "\n" + line, line + "\r", line + "\t", line + "\x00",
			line + ";", line + " #", line + " x", line + " 0", line + " tick", strings.ToUpper(line), "x" + line, line[1:], "\ufeff" + line} {
			mustRefuse(t, wrong)
		}
		for _, blank := range []string{"  ", "\t", "\n", "\r", "\v", "\f", "\x00", ",", "_", "\u00a0", "\u2003", ""} {
			for i := 1; i < len(words); i++ {
				mustRefuse(t, strings.Join(words[:i], " ")+blank+strings.Join(words[i:], " "))
			}
		}
	}
}

func TestGreatLetters(t *testing.T) {
	for _, line := range lines() {
		for i, b := range []byte(line) {
			if b >= 'a' && b <= 'z' {
				mustRefuse(t, line[:i]+strings.ToUpper(line[i:i+1])+line[i+1:])
			}
		}
	}
}

// Without one of its words, or with one of them twice, a line is none, unless it is another one of the right lines then.
func TestWordsTooFewOrTooMany(t *testing.T) {
	known := map[string]bool{}
	for _, line := range lines() {
		known[line] = true
	}
	for _, line := range lines() {
		words := strings.Split(line, " ")
		for i := range words {
			less := strings.Join(slices.Delete(slices.Clone(words), i, i+1), " ")
			more := strings.Join(slices.Insert(slices.Clone(words), i, words[i]), " ")
			for _, wrong := range []string{less, more} {
				if !known[wrong] {
					mustRefuse(t, wrong)
				}
			}
		}
	}
}

func TestOtherLines(t *testing.T) {
	for _, line := range []string{
		"", " ", "  ", "\t", "\x00", "\xff\xfe", "0", "1", "-1", "x", "ok", "off", "error 16", "pos 1 2", "life 5", "order", "order spawn", "inject", "inject 0", "inject 0 00",
		"tick 1", "tick 0", "ticks", "tic", "calm", "calm 1 2", "connect", "connect 0 1", "again", "leave", "kick", "look", "look 0", "look 0 0 0", "look 0 0 0 0 0",
		"follow", "follow 0", "follow 0 1024", "follow 0 1024 1 1", "deliver", "deliver 0 0", "copy", "drop", "turn", "turn 0", "turn 0 0", "turn 0 0 0 0",
		"despawn", "despawn 1024 1025", "despawn 1024 life 5", "world 0", "worlds", "client", "client 0 0", "clients", "bag 0", "bags", "quit", "help", "# tick", "tick # x",
		"say \u00e4", "spawn life \u00e4", "spawn \u00e4", strings.Repeat(" ", 1000), strings.Repeat("9", 10000), "spawn" + strings.Repeat(" ", 1000),
	} {
		mustRefuse(t, line)
	}
}

// Every line of few bytes is a step, or none; none that isn't told of in the table is one.
func TestShortLines(t *testing.T) {
	for a := range 256 {
		mustRefuse(t, string([]byte{byte(a)}))
		for b := range 256 {
			mustBeNoStep(t, string([]byte{byte(a), byte(b)}))
		}
	}
}

// A line may be as long as it is: Parse knows no bound.
func TestLongLines(t *testing.T) {
	const n = 30000
	want := slices.Repeat([]api.Comp{comp(api.Life, -5)}, n)
	mustParse(t, "spawn"+strings.Repeat(" life -5", n), spawn(want...))
	mustBeNoStep(t, "spawn"+strings.Repeat(" life -5", n)+" ")
	mustBeNoStep(t, "spawn"+strings.Repeat(" life -5", n)+" life")
	mustBeNoStep(t, "spawn"+strings.Repeat(" life", n))
	mustBeNoStep(t, "calm "+strings.Repeat("1", 1<<20))
	mustBeNoStep(t, strings.Repeat("a", 1<<20))
	mustBeNoStep(t, strings.Repeat(" ", 1<<20))
}

// What was answered before is the caller's.
func TestStepsAreNewMemory(t *testing.T) {
	for _, line := range []string{"spawn life 5 life 6", "set 7 life 5", "add 7 pos 1 2"} {
		x, _ := shell.Parse(line)
		want, _ := shell.Parse(line)
		was := slices.Clone(want.Order.Comps)
		l := x.Order.Comps[:cap(x.Order.Comps)]
		for i := range l {
			l[i] = comp(255, 1, 2, 3)
		}
		if again, _ := shell.Parse(line); !slices.Equal(want.Order.Comps, was) || !slices.Equal(again.Order.Comps, was) {
			t.Fatal(line, want, again)
		}
	}
}
