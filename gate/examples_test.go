package gate_test

// The examples of chapter 18, call by call.

import (
	"errors"
	"fmt"
	"strings"
	"testing"

	"reach/api"
	"reach/gate"
)

// smallText: the text T of the examples.
const smallText = `header b:2
box A
  in a
  out c d
  rule 5 match b = 0 to c
  rule 4 match any to d
`

func check(t *testing.T, what string, got, want any) {
	t.Helper()
	if fmt.Sprint(got) != fmt.Sprint(want) {
		t.Errorf("%s: %v, want %v", what, got, want)
	}
}

func reasons() []error {
	return []error{api.WhyParse, api.WhyIll, api.WhyBudget, api.WhyBroken, api.WhyState}
}

// faultIn: the Fault that an error is, as P18.1 says it of each.
func faultIn(t *testing.T, err error) *api.Fault {
	t.Helper()
	f, ok := err.(*api.Fault)
	var found *api.Fault
	if !ok || f == nil || !errors.As(err, &found) || found != f {
		t.Fatalf("P18.1: %T %v", err, err)
	}
	count := 0
	for _, why := range reasons() {
		if errors.Is(err, why) {
			count++
		}
	}
	if count != 1 || f.Error() != f.Why.Error() {
		t.Fatalf("P18.1: %d reasons in %+v", count, f)
	}
	return f
}

// outcome: all that an error tells, in one line.
func outcome(t *testing.T, err error) string {
	t.Helper()
	if err == nil {
		return "ok"
	}
	f := faultIn(t, err)
	return refused(f.Why, f.Code, f.Text, f.Line, f.Demand, f.Reply)
}

// refused: a refusal in one line: why, code, text, line, demand; and the reply, if there is one.
func refused(why error, code api.Errno, text, line, demand int, reply api.Reply) string {
	word := map[error]string{api.WhyParse: "parse", api.WhyIll: "ill", api.WhyBudget: "budget", api.WhyBroken: "broken", api.WhyState: "state"}[why]
	return fmt.Sprint(word, " ", int(code), " ", text, " ", line, " ", demand, replied(reply))
}

// replied: all that a reply holds, in lists that are empty and in nil ones alike; nothing of a zero one.
func replied(a api.Reply) string {
	text := fmt.Sprintf("; %d %v %q %q %q %q %q %q %v", a.Kind, a.Found, a.Space, a.Witness, a.Ports, a.Entries, a.Final, a.Lines, a.More)
	if text == `; 0 false "" "" [] [] "" [] false` {
		return ""
	}
	return text
}

func opened(t *testing.T, config string) *gate.Gate {
	t.Helper()
	g, err := gate.Open(config)
	if err != nil || g == nil {
		t.Fatalf("P18.5: %s: Open of %.200q", outcome(t, err), config)
	}
	return g
}

func TestExamples(t *testing.T) {
	g := opened(t, smallText)
	is := func(what string, err error, want string) {
		t.Helper()
		check(t, what, outcome(t, err), want)
	}
	stands := func(version int, text string) {
		t.Helper()
		check(t, "Version", g.Version(), version)
		check(t, "Config", g.Config(), text)
	}
	stands(1, smallText)
	is("Demand", g.Demand("no reach A.a to A.c where b = 1 hops 2"), "ok")
	is("Demand", g.Demand("some reach A.a to A.d where b = 3 hops 2"), "ok")
	is("a demand that does not hold", g.Demand("no reach A.a to A.d where any hops 2"), `broken 180 0 0 2; 1 true "xx-00" "01" ["A.a" "A.d"] ["A rule 4"] "01" [] false`)
	is("no demand", g.Demand("reach A.a to A.d where any hops 2"), "parse 184 2 0 -1")
	is("a port that there is not", g.Demand("no reach A.a to A.e where any hops 2"), "ill 171 2 0 2")
	is("Commit of nothing", g.Commit(), "state 182 0 0 -1")
	is("a rule that is there", g.Stage("at A rule 5 match any drop"), "state 64 0 0 -1")
	is("a body's line alone", g.Stage("rule 9 match any drop"), "parse 61 0 0 -1")
	is("Stage", g.Stage("at A rule 9 match b = 1 to c"), "ok")
	is("Commit of what breaks a demand", g.Commit(), `broken 180 0 0 0; 1 true "01" "01" ["A.a" "A.c"] ["A rule 9"] "01" [] false`)
	stands(1, smallText)
	is("Stage", g.Stage("no at A rule 9"), "ok")
	is("Stage", g.Stage("at A rule 9 match b = 2 drop"), "ok")
	is("Commit", g.Commit(), "ok")
	changed := smallText + "  rule 9 match b = 2 drop\n"
	stands(2, changed)
	is("Stage", g.Stage("no at A out d"), "ok")
	is("Commit of what is ill-formed", g.Commit(), "ill 73 1 0 -1")
	stands(2, changed)
	check(t, "Undo", g.Undo(), 1)
	check(t, "Undo", g.Undo(), 0)
	is("Back to what there is not", g.Back(3), "state 181 0 0 -1")
	is("Back", g.Back(1), "ok")
	stands(3, smallText)
}

// What the text says otherwise than it is printed is in force all the same.
func TestTheTextInForceIsThePrintedOne(t *testing.T) {
	g := opened(t, "# a comment\n"+strings.ReplaceAll(smallText, "  ", "\t")+"link A.c -> A.a cost 1")
	check(t, "P18.5: Config", g.Config(), smallText+"link A.c -> A.a\n")
}
