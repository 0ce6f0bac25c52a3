package gate_test

// P18.3 to P18.10: what each call refuses, and which of several refusals comes first.

import (
	"fmt"
	"strings"
	"testing"

	"reach/api"
	"reach/conf"
	"reach/gate"
	"reach/run"
)

// longRules: rules of box A that are short as they are written here, and take more than MaxText bytes as they are printed.
func longRules() []string {
	var list []string
	for priority := range 60 {
		list = append(list, fmt.Sprint("rule ", priority+100, " match b=1", strings.Repeat("|b=1", 31), " to c"))
	}
	return list
}

// wide: a network whose header has room for a rule that takes too many cubes.
const (
	wide    = "header b:2 e:32 f:32\nbox A\nin a\nout c d\n"
	tooWide = "rule 3 match e != 1 & f != 1 drop"
	offence = "rule 2 match b = 4 drop"
)

// A network may be in force, or the first of three is told why not: ill-formed, too long, too many cubes.
func TestMayBeInForce(t *testing.T) {
	long := strings.Join(longRules(), "\n")
	for _, e := range []struct{ body, want string }{
		{"", "ok"},
		{tooWide, "budget 3 0 0 -1"},
		{long, "ill 2 1 0 -1"},
		{offence, "ill 77 1 0 -1"},
		{tooWide + "\n" + long, "ill 2 1 0 -1"},
		{tooWide + "\n" + offence, "ill 77 1 0 -1"},
		{offence + "\n" + long, "ill 77 1 0 -1"},
		{offence + "\n" + long + "\n" + tooWide, "ill 77 1 0 -1"},
	} {
		g, err := gate.Open(wide + e.body)
		check(t, fmt.Sprintf("P18.3: Open with %.40q", e.body), outcome(t, err), e.want)
		if (g == nil) != (err != nil) {
			t.Errorf("P18.5: %.40q: %v beside %v", e.body, g, err)
		}
	}
	// The same by changes: a box has one rule more, and one line of each kind makes it worse.
	for _, e := range []struct {
		lines []string
		want  string
	}{
		{[]string{tooWide}, "budget 3 0 0 -1"},
		{longRules()[:30], "ok"},
		{[]string{offence, tooWide}, "ill 77 1 0 -1"},
		{[]string{tooWide, offence}, "ill 77 1 0 -1"},
	} {
		g := opened(t, wide)
		for _, line := range e.lines {
			check(t, "P18.7", outcome(t, g.Stage("at A "+line)), "ok")
		}
		check(t, fmt.Sprintf("P18.8: Commit of %.40q", e.lines), outcome(t, g.Commit()), e.want)
		// Whether it may be in force is asked ahead of the demands.
		g = opened(t, wide)
		check(t, "P18.6", outcome(t, g.Demand("some lost A.a where b = 1 hops 1")), "ok")
		check(t, "P18.7", outcome(t, g.Stage("at A rule 999 match any to c")), "ok")
		for _, line := range e.lines {
			check(t, "P18.7", outcome(t, g.Stage("at A "+line)), "ok")
		}
		if got := outcome(t, g.Commit()); e.want != "ok" && got != e.want || e.want == "ok" && !strings.HasPrefix(got, "broken 180 0 0 0") {
			t.Errorf("P18.8: Commit of %.40q: %s", e.lines, got)
		}
	}
	g := opened(t, wide)
	for n, line := range longRules() {
		check(t, "P18.7", outcome(t, g.Stage("at A "+line)), "ok")
		if n == 29 {
			check(t, "P18.8", outcome(t, g.Commit()), "ok")
		}
	}
	was := g.Config()
	check(t, "P18.8: Commit of too long a text", outcome(t, g.Commit()), "ill 2 1 0 -1")
	check(t, "P18.2: Config", g.Config(), was)
	check(t, "P18.2: Undo", g.Undo(), 30)
}

func TestOpenRefuses(t *testing.T) {
	for _, e := range []struct{ config, want string }{
		{"", "ill 70 1 0 -1"},
		{"bogus", "parse 60 1 1 -1"},
		{"header b:2\n\nbox A\nin in", "parse 50 1 4 -1"},
		{"header b:2\nin a", "parse 61 1 2 -1"},
		{"bogus\n\n$", "parse 30 1 3 -1"},
		{strings.Repeat("#", api.MaxText), "ill 70 1 0 -1"},
		{strings.Repeat("#", api.MaxText+1), "parse 2 1 0 -1"},
		{smallText + "box A\nbox Z", "ill 72 1 0 -1"},
		{smallText + "link A.c -> A.b", "ill 73 1 0 -1"},
		{smallText + "link A.c -> A.b\nbogus", "parse 60 1 8 -1"},
	} {
		g, err := gate.Open(e.config)
		check(t, fmt.Sprintf("P18.5: Open(%.40q)", e.config), outcome(t, err), e.want)
		if g != nil {
			t.Errorf("P18.5: %.40q: a gate beside %v", e.config, err)
		}
	}
}

// circle: a network in which each packet has twice as many paths with each hop, if the rule 1 is as it is here.
const circle = "header b:2\nbox A\n  in a e\n  out c d\n  rule 1 match any to c, d\nlink A.c -> A.a\nlink A.d -> A.e\n"

// A demand that does not hold, by each of the three reasons, in each of the three calls that ask.
func TestDemandsThatDoNotHold(t *testing.T) {
	const ill, budget, broken = "some reach A.a to A.x where any hops 1", "no reach A.a to A.c where any hops 12", "no loop A.a where any hops 1"
	text := func(word, line string, kind int) string {
		t.Helper()
		r := run.Run(circle, strings.TrimPrefix(line, word+" "))
		check(t, "the kind of "+line, r.Kind, kind)
		if kind == api.ResultReplies {
			return replied(r.Replies[0])
		}
		return ""
	}
	wants := []struct{ line, want string }{
		{ill, "ill 171 2 0 %d" + text("some", ill, api.ResultIll)},
		{budget, "budget 3 0 0 %d" + text("no", budget, api.ResultBudget)},
		{broken, "broken 180 0 0 %d" + text("no", broken, api.ResultReplies)},
	}
	for _, e := range wants {
		g := opened(t, circle)
		for number := range 3 {
			check(t, "P18.6: "+e.line, outcome(t, g.Demand(e.line)), fmt.Sprintf(e.want, number))
			check(t, "P18.6", outcome(t, g.Demand("some cover hops 1")), "ok")
		}
	}
	// In another network all of these hold. The first that does not hold in this one is told.
	for n := range 6 {
		order := [][3]int{{0, 1, 2}, {0, 2, 1}, {1, 0, 2}, {1, 2, 0}, {2, 0, 1}, {2, 1, 0}}[n]
		g := opened(t, circle)
		lines := []string{"no link A.c", "no link A.d", "at A out x", "no at A rule 1", "at A rule 1 match any to x"}
		for _, line := range lines {
			check(t, "P18.7: "+line, outcome(t, g.Stage(line)), "ok")
		}
		check(t, "P18.8", outcome(t, g.Commit()), "ok")
		check(t, "P18.6", outcome(t, g.Demand("no lost A.a where any hops 0")), "ok")
		for _, at := range order {
			check(t, "P18.6: "+wants[at].line, outcome(t, g.Demand(wants[at].line)), "ok")
		}
		want := fmt.Sprintf(wants[order[0]].want, 1)
		check(t, "P18.10", outcome(t, g.Back(1)), want)
		for _, line := range []string{"no at A rule 1", "no at A out x", "at A rule 1 match any to c, d", "link A.c -> A.a", "link A.d -> A.e"} {
			check(t, "P18.7: "+line, outcome(t, g.Stage(line)), "ok")
		}
		check(t, "P18.8", outcome(t, g.Commit()), want)
		check(t, "P18.2: Version", g.Version(), 2)
		check(t, "P18.2: Undo", g.Undo(), 5)
	}
}

// full: a gate that has as many demands, versions and staged changes as there may be. It has the in-port e only from version 2 on, and demands about it; box B is staged.
func full(t *testing.T) *gate.Gate {
	t.Helper()
	g := opened(t, smallText)
	check(t, "P18.7", outcome(t, g.Stage("at A in e")), "ok")
	check(t, "P18.8", outcome(t, g.Commit()), "ok")
	for range api.MaxDemands {
		check(t, "P18.6", outcome(t, g.Demand("no loop A.e where any hops 3")), "ok")
	}
	for g.Version() < api.MaxVersions {
		check(t, "P18.10", outcome(t, g.Back(2)), "ok")
	}
	check(t, "P18.7", outcome(t, g.Stage("box B")), "ok")
	for n := range api.MaxStaged - 1 {
		check(t, "P18.7", outcome(t, g.Stage(fmt.Sprint("at B in p", n))), "ok")
	}
	return g
}

func TestWhatIsFull(t *testing.T) {
	g := full(t)
	was := g.Config()
	for _, e := range []struct {
		what string
		err  error
		want string
	}{
		{"Demand of what holds", g.Demand("no loop A.a where any hops 3"), "state 183 0 0 -1"},
		{"Demand of what is broken", g.Demand("some loop A.a where any hops 3"), "state 183 0 0 -1"},
		{"Demand about what there is not", g.Demand("some loop A.z where any hops 3"), "state 183 0 0 -1"},
		{"Demand that cannot be read", g.Demand("some loop A.z where any hops 65"), "parse 1 2 0 -1"},
		{"no demand", g.Demand("loop A.a where any hops 3"), "parse 184 2 0 -1"},
		{"no tokens", g.Demand("loop $"), "parse 30 2 0 -1"},
		{"Stage", g.Stage("box C"), "state 183 0 0 -1"},
		{"Stage of what is there", g.Stage("box B"), "state 64 0 0 -1"},
		{"Stage of what is staged", g.Stage("at B out p30"), "state 64 0 0 -1"},
		{"Stage of what is gone", g.Stage("no box C"), "state 63 0 0 -1"},
		{"Stage of no change", g.Stage("bogus"), "parse 60 0 0 -1"},
		{"Commit", g.Commit(), "state 183 0 0 -1"},
		{"Back", g.Back(64), "state 183 0 0 -1"},
		{"Back to what breaks a demand", g.Back(1), "state 183 0 0 -1"},
		{"Back to what there is not", g.Back(65), "state 181 0 0 -1"},
		{"Back to nothing", g.Back(0), "state 181 0 0 -1"},
		{"Back below", g.Back(-1 << 63), "state 181 0 0 -1"},
		{"Back above", g.Back(1<<63 - 1), "state 181 0 0 -1"},
	} {
		check(t, "P18.6 to P18.10: full: "+e.what, outcome(t, e.err), e.want)
	}
	check(t, "P18.2: Config", g.Config(), was)
	check(t, "P18.2: Version", g.Version(), 64)
	check(t, "P18.9: Undo", g.Undo(), 32)
	check(t, "P18.9: Undo", g.Undo(), 0)
	check(t, "P18.8: nothing staged comes first", outcome(t, g.Commit()), "state 182 0 0 -1")
	check(t, "P18.7: room again", outcome(t, g.Stage("box B")), "ok")
	check(t, "P18.8: ill-formed, and full", outcome(t, stagedAlso(g, "at A rule 7 match any to z")), "state 183 0 0 -1")
}

// stagedAlso: Commit with one change more.
func stagedAlso(g *gate.Gate, line string) error {
	if err := g.Stage(line); err != nil {
		return err
	}
	return g.Commit()
}

// A demand is made of one line; what it demands is the text behind its first word.
func TestDemandLines(t *testing.T) {
	const holds = "reach A.a to A.c where any hops 1"
	filled := "some " + holds + " #"
	for _, e := range []struct{ line, want string }{
		{"some " + holds, "ok"},
		{"no " + holds, `broken 180 0 0 0; 1 true "00" "00" ["A.a" "A.c"] ["A rule 5"] "00" [] false`},
		{"\t some\t" + holds + "\r\n", "ok"},
		{"# no\n#some some\n\n  some " + holds + " # no\n\n#\n", "ok"},
		{"# \xff\xfeé\nsome " + holds + "# é\xff", "ok"},
		{filled + strings.Repeat("x", api.MaxText-len(filled)), "ok"},
		{filled + strings.Repeat("x", api.MaxText-len(filled)+1), "parse 2 2 0 -1"},
		{strings.Repeat("\n", api.MaxText-len(filled)) + filled, "ok"},
		{`no path A.a where any along "A.c" hops 1`, "ok"},
		{`some path A.a where any along ". A.c" hops 1`, "ok"},
		{"no cover hops 1", "ok"},
		{"some trace A.a set b = 3 hops 1", "ok"},
		{"", "parse 184 2 0 -1"},
		{" # some " + holds, "parse 184 2 0 -1"},
		{"\n\n", "parse 184 2 0 -1"},
		{holds, "parse 184 2 0 -1"},
		{"No " + holds, "parse 184 2 0 -1"},
		{"nosome " + holds, "parse 184 2 0 -1"},
		{"no.some " + holds, "parse 184 2 0 -1"},
		{`"no" ` + holds, "parse 184 2 0 -1"},
		{"( no " + holds, "parse 184 2 0 -1"},
		{"no\n" + holds, "parse 184 2 0 -1"},
		{"no " + holds + "\nbogus", "parse 184 2 0 -1"},
		{"no bogus\n" + holds, "parse 184 2 0 -1"},
		{"no budget", "parse 184 2 0 -1"},
		{"some budget 5", "parse 184 2 0 -1"},
		{"some budget 5\n" + holds, "parse 184 2 0 -1"},
		{"some budget 0", "parse 184 2 0 -1"},
		{"no", "parse 170 2 0 -1"},
		{"some # " + holds, "parse 170 2 0 -1"},
		{"\n\nno bogus", "parse 60 2 0 -1"},
		{`no "budget" 5`, "parse 60 2 0 -1"},
		{"no no " + holds, "parse 60 2 0 -1"},
		{"no..a", "parse 60 2 0 -1"},
		{"no cover", "parse 50 2 0 -1"},
		{"no cover hops 1 budget", "parse 50 2 0 -1"},
		{"no cover hops 65", "parse 1 2 0 -1"},
		{`no path A.z where any along "(" hops 1`, "parse 140 2 0 -1"},
		{"no loop A.z where b = 9 & ) hops 1", "parse 50 2 0 -1"},
		{"no $", "parse 30 2 0 -1"},
		{"bogus $", "parse 30 2 0 -1"},
		{"no cover hops 1\n\n 007", "parse 31 2 0 -1"},
		{"no loop A.z where b = 9 hops 1", "ill 171 2 0 0"},
		{"no loop A.a where b = 9 hops 1", "ill 77 2 0 0"},
		{"no isolate red from blue hops 1", "ill 172 2 0 0"},
		{"no trace A.a set b = 9 hops 1", "ill 79 2 0 0"},
	} {
		g := opened(t, smallText)
		check(t, fmt.Sprintf("P18.6: Demand(%.60q)", e.line), outcome(t, g.Demand(e.line)), e.want)
	}
}

// Wherever the words stand, `no` demands that nothing is found, `some` that something is.
func TestDemandsByTheirFirstWord(t *testing.T) {
	for _, e := range []struct{ query, no, some string }{
		{"reach A.a to A.c where any hops 1", "broken 180 0 0 0", "ok"},
		{"missed A.a to A.c where any hops 1", "broken 180 0 0 0", "ok"},
		{"trace A.a hops 2", "broken 180 0 0 0", "ok"},
		{"lost A.a where any hops 9", "ok", "broken 180 0 0 0"},
		{"loop A.a where any hops 9", "ok", "broken 180 0 0 0"},
		{"cover hops 1", "ok", "broken 180 0 0 0"},
	} {
		no, _, _ := strings.Cut(outcome(t, opened(t, smallText).Demand("# some\n\t no "+e.query+" # some")), ";")
		check(t, "P18.6: no "+e.query, no, e.no)
		some, _, _ := strings.Cut(outcome(t, opened(t, smallText).Demand("\n # no\n some\t"+e.query+"\n # no")), ";")
		check(t, "P18.6: some "+e.query, some, e.some)
	}
}

// What is demanded stays demanded as it was told, about whatever is in force.
func TestDemandsAreOfWhatIsInForce(t *testing.T) {
	g := opened(t, smallText)
	check(t, "P18.7", outcome(t, g.Stage("no at A rule 5")), "ok")
	check(t, "P18.6: what is staged does not matter", outcome(t, g.Demand("some reach A.a to A.c where any hops 1")), "ok")
	check(t, "P18.8", outcome(t, g.Commit()), `broken 180 0 0 0; 1 false "none" "" [] [] "" [] false`)
	check(t, "P18.7", outcome(t, g.Stage("at A rule 5 match b = 3 to c")), "ok")
	check(t, "P18.8", outcome(t, g.Commit()), "ok")
	check(t, "P18.6", outcome(t, g.Demand("no reach A.a to A.c where b = 0 hops 1")), "ok")
	check(t, "P18.10: demands made later count", outcome(t, g.Back(1)), `broken 180 0 0 1; 1 true "00" "00" ["A.a" "A.c"] ["A rule 5"] "00" [] false`)
	check(t, "P18.2: Version", g.Version(), 2)
	check(t, "P18.10", outcome(t, g.Back(2)), "ok")
	check(t, "P18.10: Version", g.Version(), 3)
}

// Back keeps the old versions, and forgets what is staged, if it is taken.
func TestBack(t *testing.T) {
	g := opened(t, smallText)
	texts := []string{"", smallText}
	for n := range 4 {
		check(t, "P18.7", outcome(t, g.Stage(fmt.Sprint("box N", n))), "ok")
		check(t, "P18.8", outcome(t, g.Commit()), "ok")
		texts = append(texts, g.Config())
	}
	for _, version := range []int{3, 1, 5, 7, 6, 2, 10, 4} {
		check(t, "P18.7", outcome(t, g.Stage("box M")), "ok")
		check(t, "P18.10", outcome(t, g.Back(len(texts))), "state 181 0 0 -1")
		check(t, "P18.2: what is staged", outcome(t, g.Stage("box M")), "state 64 0 0 -1")
		check(t, "P18.10", outcome(t, g.Back(version)), "ok")
		texts = append(texts, texts[version])
		check(t, "P18.10: Config", g.Config(), texts[version])
		check(t, "P18.10: Version", g.Version(), len(texts)-1)
		check(t, "P18.10: Undo", g.Undo(), 0)
	}
	check(t, "P18.10: a change of what is back", outcome(t, stagedAlso(g, "no box N2")), "ok")
	check(t, "P18.8: Config", g.Config(), smallText+"box N0\nbox N1\n")
}

// A network may be anything between two commits: a port gets another name by several changes.
func TestStageAsksNothingOfTheNetwork(t *testing.T) {
	g := opened(t, smallText)
	for n, line := range []string{"no at A in a", "at A in b", "no at A rule 5", "no box A", "box A", "at A rule 5 match b = 0 to z", "at A own 5/77 to q"} {
		check(t, "P18.7: "+line, outcome(t, g.Stage(line)), "ok")
		if n == 2 {
			check(t, "P18.8", outcome(t, g.Commit()), "ok")
		}
	}
	check(t, "P18.8: Config", g.Config(), "header b:2\nbox A\n  in b\n  out c d\n  rule 4 match any to d\n")
	check(t, "P18.8", outcome(t, g.Commit()), "ill 73 1 0 -1")
	check(t, "P18.9", g.Undo(), 4)
}

// Stage refuses what conf.Edit refuses of what is in force with all that is staged.
func TestStageRefusesAsEditDoes(t *testing.T) {
	c, _, _ := conf.Parse(smallText)
	c, _ = conf.Edit(c, "box B")
	long := strings.Repeat(" ", api.MaxText-5)
	for _, line := range []string{
		"", "#", "bogus", "A.a", "box", "box in", "box C D", "box C\nbox D", "box A", "box B", "no box B", "no box C", "box C " + long[:len(long)-1], "box C " + long,
		"$", "box \"", "box 007", "rule 5 match any drop", "at A link A.c -> A.a", "at A color red", "at B rule 5 match any drop", "at A rule 5 match any drop",
		"at A rule 6 match (any drop", "at A rule 6 match b = drop", "at C in a", "no at C in a", "no at A in c", "no at A in a", "no at B rule 5", "no header", "no no box A",
		"link A.c -> A.a", "no link A.c", "slice red where any", "no slice red", "header c:2", "at A own 0/0 to c", "no at A guard a", "at A in x x",
	} {
		g := opened(t, smallText)
		check(t, "P18.7", outcome(t, g.Stage("box B")), "ok")
		_, errno := conf.Edit(c, line)
		want := refused(api.WhyParse, errno, 0, 0, -1, api.Reply{})
		switch errno {
		case api.OK:
			want = "ok"
		case api.ErrGone, api.ErrThere:
			want = state(errno)
		}
		check(t, fmt.Sprintf("P18.7: Stage(%.60q)", line), outcome(t, g.Stage(line)), want)
		count := 1
		if want == "ok" {
			count = 2
		}
		check(t, fmt.Sprintf("P18.2, P18.9: Undo behind %.60q", line), g.Undo(), count)
	}
}

// Ask is Run of the text that is in force, whatever is staged.
func TestAskIsRun(t *testing.T) {
	g := opened(t, smallText)
	queries := []string{
		"reach A.a to A.d where any hops 1", "cover hops 1\ncover hops 2", "budget 1\nlost A.a where any hops 1", "budget 1\nreach A.a to A.d where any hops 1",
		"", "bogus", "loop A.z where any hops 1", "no cover hops 1", "loop D.a where any hops 1", strings.Repeat("#", api.MaxText+1),
	}
	same := func() {
		t.Helper()
		for _, query := range queries {
			check(t, fmt.Sprintf("P18.11: Ask(%.60q)", query), resulted(g.Ask(query)), resulted(run.Run(g.Config(), query)))
		}
	}
	same()
	for _, line := range []string{"box D", "at D in a", "no at A rule 5"} {
		check(t, "P18.7", outcome(t, g.Stage(line)), "ok")
	}
	check(t, "P18.11: what is staged", resulted(g.Ask(queries[8])), "3 171 2 1")
	same()
	check(t, "P18.8", outcome(t, g.Commit()), "ok")
	check(t, "P18.11: what is in force", g.Ask(queries[8]).Kind, api.ResultReplies)
	same()
}
