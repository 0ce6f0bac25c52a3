package run_test

// The examples of chapter 17, and the twelve examples of the whole.

import (
	"fmt"
	"strings"
	"testing"

	"reach/api"
	"reach/run"
)

// labText: the network L of the examples of the whole.
const labText = `network "lab"
header dst:4 tag:2
routing dst
box A
  in a
  out c d
  guard a deny dst = 15
  guard a permit any
  rule 10 match tag = 3 set tag = 0 to d
  rule 5 match dst < 4 to c, d
box B
  in a
  out b e
  rule 7 match tag = 1 set tag = 2 to e
  own 8/1 to b
link A.c -> B.a
link B.e -> A.a
slice red A.a where tag = 1
slice blue B.b where any
`

// wholes: the query texts of the twelve examples, and what Render writes of them.
func wholes() [][2]string {
	return [][2]string{
		{`reach A.a to B.b where any hops 4`, `
reach: found
  space 1xxx01-111101+1xxxxx-1111xx-1xxx01-1xxx11
  witness 100000
  path A.a A.c B.a B.b
  by A way 0.0.0.8/1, B own 0.0.0.8/1
  final 100000
`},
		{"budget 22\nreach A.a to B.b where any hops 4", `
budget exceeded
`},
		{`loop A.a where any hops 6`, `
loop: found
  space 00xx01+1xxx01-111101
  witness 000001
  path A.a A.c B.a B.e A.a
  by A rule 5, B rule 7
  final 000010
`},
		{`lost A.a where any hops 2`, `
lost: found
  space 00xxxx-00xx01-00xx11+1111xx+xxxxxx-00xxxx-1xxxxx-xxxx11
  witness 000000
  path A.a A.c B.a
  by A rule 5
  final 000000
`},
		{`missed A.a to B.b where dst = 8..11 hops 4`, `
missed: found
  space 10xx11
  witness 100011
  path A.a
  final 100011
`},
		{`isolate red from blue hops 4`, `
isolate: found
  space 1xxx01-111101
  witness 100001
  path A.a A.c B.a B.e A.a A.c B.a B.b
  by A way 0.0.0.8/1, B rule 7, A way 0.0.0.8/1, B own 0.0.0.8/1
  final 100010
`},
		{`path A.a where any along "A .* B.e .*" hops 2`, `
path: found
  space 00xx01+1xxx01-111101
  witness 000001
  path A.a A.c B.a B.e
  by A rule 5, B rule 7
  final 000010
`},
		{`avoid A.a to A.d where any along ".* B .*" hops 1`, `
avoid: found
  space 00xxxx-00xx11+xxxx11-111111
  witness 000000
  path A.a A.d
  by A rule 5
  final 000000
`},
		{`cover hops 2`, `
cover: found
  dead A rule 10 unmet
  dead A rule 5 unmet
  dead A way 0.0.0.8/1 unmet
  dead B rule 7 unmet
  dead B own 0.0.0.8/1 unmet
`},
		{"trace A.a set dst = 8, tag = 1 hops 8\nloop A.a where tag = 2 hops 64", `
trace: found
  space 100001
  witness 100001
  path A.a A.c B.a B.e A.a A.c B.a B.b
  by A way 0.0.0.8/1, B rule 7, A way 0.0.0.8/1, B own 0.0.0.8/1
  final 100010
  A.a A.c B.a B.e A.a A.c B.a B.b
loop: none
  space none
`},
		{"cover hops 2\nreach A.a to B.z where any hops 1", `
ill-formed 171 in query 2
`},
		{`reach A.a to B.b where dst < hops 1`, `
parse error 50 in the query, line 1
`},
	}
}

func check(t *testing.T, what, got, want string) {
	t.Helper()
	if got != want {
		t.Errorf("%.3000s: %.3000s; want %.3000s", what, got, want)
	}
}

func rendered(config, query string) string { return run.Render(run.Run(config, query)) }

func TestTheExamplesOfTheWhole(t *testing.T) {
	for at, e := range wholes() {
		what := fmt.Sprint("P17.2, P17.3, P17.5: example ", at+1)
		check(t, what, "\n"+rendered(labText, e[0]), e[1])
		// What can be read is ill-formed with a second rule 5.
		twice := strings.Replace(labText, "rule 5 ", "rule 5 match any drop\n  rule 5 ", 1)
		want := "ill-formed 76 in the configuration\n"
		if strings.HasPrefix(e[1], "\nparse error") {
			want = e[1][1:]
		}
		check(t, what+" with a second rule 5", rendered(twice, e[0]), want)
	}
}

// All examples that get replies, in one text; each on its own line, with what says nothing between.
func TestTheExamplesInOneText(t *testing.T) {
	query, want, count := "# all of them\n\n", "", 0
	for _, e := range wholes() {
		if lines := strings.Count(e[0], "\n") + 1; strings.Contains(e[1], ": ") && count+lines <= api.MaxQueries {
			count += lines
			query += "\t" + e[0] + " # so\r\n\n"
			want += e[1][1:]
		}
	}
	if count < 7 {
		t.Fatalf("%d queries", count)
	}
	check(t, "P17.2", rendered(labText, query), want)
}

// In example 1 the origins have 23 cubes together.
func TestTheBudgetOfTheFirstExample(t *testing.T) {
	e := wholes()[0]
	for _, budget := range []int{1, 21, 22, 23, 24, 1023, 1024} {
		want := "budget exceeded\n"
		if budget > 22 {
			want = e[1][1:]
		}
		check(t, fmt.Sprint("P17.2: a budget of ", budget), rendered(labText, fmt.Sprintln("budget", budget)+e[0]), want)
	}
}

// asks: all that Parse answers, in one line.
func asks(query string) string {
	list, budget, errno, line := run.Parse(query)
	if errno != api.OK {
		if len(list) > 0 || budget != 0 {
			return fmt.Sprintf("W3: the error %d beside %v, %d", errno, list, budget)
		}
		return fmt.Sprint("error ", errno, " in line ", line)
	}
	if line != 0 {
		return fmt.Sprint("W3: no error, but the line ", line)
	}
	text := fmt.Sprint("budget ", budget)
	for _, a := range list {
		text += fmt.Sprintf("; %d %q %q %v %q %v %d", a.Kind, a.From, a.To, a.Where, a.Along, a.Sets, a.Hops)
	}
	return text
}

func TestTheExamplesOfTheChapter(t *testing.T) {
	for _, e := range [][2]string{
		{"", "error 170 in line 0"},
		{"budget 7", "error 170 in line 0"},
		{"budget 7\nloop R1.a where any hops 64", `budget 7; 3 "R1.a" "" [{1 { 0 0 0 0 0 }}] "" [] 64`},
		{"loop R1.a where any hops 65", "error 1 in line 1"},
		{"\n\nloop R1 where any hops 6", "error 50 in line 3"},
		{"cover hops 1\nbudget 7", "error 61 in line 2"},
		{"cover hops 1 2", "error 50 in line 1"},
		{`path A.a where any along "(" hops 99`, "error 140 in line 1"},
	} {
		check(t, fmt.Sprintf("P17.1: %q", e[0]), asks(e[0]), e[1])
	}
	loop := api.Reply{Kind: api.AskLoop, Space: "none"}
	for want, r := range map[string]api.Result{
		"":                           {},
		"budget exceeded\n":          {Kind: api.ResultBudget, Code: api.ErrBudget},
		"loop: none\n  space none\n": {Kind: api.ResultReplies, Replies: []api.Reply{loop}},
	} {
		check(t, fmt.Sprintf("P17.5: %+v", r), run.Render(r), want)
	}
}
