package gate_test

// Networks, changes of them, demands and calls, by a source of mixed numbers.

import (
	"fmt"
	"slices"
	"strings"
	"testing"

	"reach/api"
	"reach/gate"
	"reach/run"
)

type source uint64

func (s *source) below(n int) int {
	*s = *s*6364136223846793005 + 1442695040888963407
	return int(uint64(*s) >> 33 % uint64(n))
}

func (s *source) oneOf(words ...string) string { return words[s.below(len(words))] }

func (s *source) leaf() string {
	switch s.below(8) {
	case 0:
		return "any"
	case 1:
		return fmt.Sprint("g = ", s.below(2))
	case 2:
		return fmt.Sprint("f = ", 2*s.below(2), "/1")
	}
	return fmt.Sprint("f ", s.oneOf("=", "=", "!=", "<", ">="), " ", s.below(4))
}

func (s *source) match() string {
	text := s.leaf()
	if s.below(3) == 0 {
		text = s.oneOf(text, "!("+text+")") + s.oneOf(" & ", " | ") + s.leaf()
	}
	return text
}

func (s *source) box() string { return s.oneOf("A", "B", "C") }

func (s *source) in() string { return s.oneOf("a", "b") }

func (s *source) out() string { return s.oneOf("c", "d") }

// rule: what stands behind a rule's priority.
func (s *source) rule() string {
	from := s.oneOf("", "", " from "+s.in())
	set := s.oneOf("", "", fmt.Sprint(" set g = ", s.below(2)))
	return from + " match " + s.match() + set + s.oneOf(" drop", " to c", " to d", " to c, d")
}

func (s *source) link() string {
	return fmt.Sprintf("%s.%s -> %s.%s", s.box(), s.out(), s.box(), s.in())
}

// network: the text of a small well-formed one.
func (s *source) network() string {
	var b strings.Builder
	b.WriteString("header f:2 g:1\n" + s.oneOf("", "routing f\n"))
	routing := strings.Contains(b.String(), "routing")
	for _, box := range []string{"A", "B", "C"} {
		fmt.Fprintf(&b, "box %s\nin a b\nout c d\n", box)
		if s.below(4) == 0 {
			fmt.Fprintf(&b, "guard %s permit %s\n", s.oneOf("a", "b", "c", "d"), s.match())
		}
		for priority := range 1 + s.below(3) {
			fmt.Fprintf(&b, "rule %d%s\n", priority, s.rule())
		}
		if routing && s.below(2) == 0 {
			fmt.Fprintf(&b, "%s %d/1 to %s\n", s.oneOf("own", "route"), 2*s.below(2), s.out())
		}
	}
	for _, from := range []string{"A.c", "A.d", "B.c", "B.d", "C.c", "C.d"} {
		if s.below(3) == 0 {
			fmt.Fprintf(&b, "link %s -> %s.%s\n", from, s.box(), s.in())
		}
	}
	for _, name := range []string{"red", "blue"} {
		if s.below(3) > 0 {
			fmt.Fprintf(&b, "slice %s %s.%s where %s\n", name, s.box(), s.oneOf("a", "c"), s.match())
		}
	}
	return b.String()
}

// change: a line for Stage; most are changes of such a network, some are refused, some make it ill-formed.
func (s *source) change() string {
	box, priority := s.box(), s.below(6)
	switch s.below(14) {
	case 0, 1, 2:
		return fmt.Sprint("at ", box, " rule ", priority, s.rule())
	case 3, 4, 5:
		return fmt.Sprint("no at ", box, " rule ", s.below(2))
	case 6:
		return "link " + s.link()
	case 7:
		return fmt.Sprintf("no link %s.%s", box, s.out())
	case 8:
		return s.oneOf("at "+box+" guard a permit "+s.match(), "no at "+box+" guard a")
	case 9:
		return s.oneOf("at "+box+" own 2/1 to c", "no at "+box+" own 2/1", "at "+box+" route 0/1 to d", "no at "+box+" route 0/1")
	case 10:
		return s.oneOf("slice red "+box+".a where "+s.match(), "no slice red", "no slice blue")
	case 11:
		return s.oneOf("at "+box+" in e", "no at "+box+" in e", "box D", "no box D", " box D # D\n")
	case 12:
		return s.oneOf("no at "+box+" out d", "no box "+box, "at "+box+" rule 7 match f = 9 drop", "at "+box+" rule 7 match any to z", "no at "+box+" rule 7")
	}
	return s.oneOf("", "bogus", "at A color red", "rule 5 match any drop", "box E\nbox F", "box $", "at A rule 5 match (any drop", "no at A rule", "at Z in a", "header f:2")
}

func (s *source) port() string {
	if s.below(12) == 0 {
		return s.oneOf("A.e", "B.e", "D.a", "A.z")
	}
	return s.box() + "." + s.oneOf("a", "b", "c", "d")
}

// query: one of some kind, of which not every network has all.
func (s *source) query() string {
	from := s.box() + "." + s.in()
	along := `"` + s.oneOf(".* B .*", ".* C.a .*", "A .*", "!B*") + `"`
	hops := fmt.Sprint(" hops ", 1+s.below(5))
	switch s.below(10) {
	case 0, api.AskReach:
		return "reach " + from + " to " + s.port() + " where " + s.match() + hops
	case api.AskMissed:
		return "missed " + from + " to " + s.port() + " where " + s.match() + hops
	case api.AskLoop:
		return "loop " + from + " where " + s.match() + hops
	case api.AskLost:
		return "lost " + from + " where " + s.match() + hops
	case api.AskIsolate:
		return "isolate " + s.oneOf("red from blue", "blue from red") + hops
	case api.AskPath:
		return "path " + from + " where " + s.match() + " along " + along + hops
	case api.AskAvoid:
		return "avoid " + from + " to " + s.port() + " where " + s.match() + " along " + along + hops
	case api.AskCover:
		return "cover" + hops
	}
	return "trace " + from + fmt.Sprint(" set f = ", s.below(5)) + hops
}

// demand: a line for Demand; most hold for the text that is in force.
func (s *source) demand(config string) string {
	if s.below(6) == 0 {
		return s.oneOf("", "no", "# no cover hops 1", "all cover hops 1", "cover hops 1", `"no" cover hops 1`, "no budget 5", "no\ncover hops 1", "no cover hops 1\nsome cover hops 1", "some cover hops 65", "no $", "some bogus", "no isolate red from blue", "no cover hops 1 2")
	}
	query := s.query()
	word := s.oneOf("no", "some")
	if r := run.Run(config, query); r.Kind == api.ResultReplies && s.below(4) > 0 {
		word = []string{"no", "some"}[found(r)]
	}
	return s.oneOf("", "", " \t", "# no\n", "\r\n\n #é\xff\n  ") + word + s.oneOf(" ", "\t", " \r ") + query + s.oneOf("", "", " # some", "\n", "\n\n # no \xff")
}

func found(r api.Result) int {
	if r.Replies[0].Found {
		return 1
	}
	return 0
}

// deed is one call of a gate.
type deed struct {
	call    string
	line    string
	version int
}

// mutilated: a text with some bytes left out, doubled or put in.
func (s *source) mutilated(text string) string {
	for range 1 + s.below(2) {
		at := s.below(len(text) + 1)
		to := min(len(text), at+s.below(4))
		text = text[:at] + s.oneOf("", text[at:to]+text[at:to], "\n", " ", "#", "\"", "\xff", "é", "0", "no", ".", "(") + text[to:]
	}
	return text
}

// otherLines: a text with one line left out and another one doubled.
func (s *source) otherLines(text string) string {
	lines := strings.SplitAfter(text, "\n")
	at := s.below(len(lines))
	lines = slices.Delete(lines, at, at+1)
	at = s.below(len(lines))
	return strings.Join(slices.Insert(lines, at, lines[at]), "")
}

// line: most are as they are.
func (s *source) line(text string) string {
	if s.below(8) == 0 {
		return s.mutilated(text)
	}
	return text
}

// deed: the next call, of a gate with this text in force and so many versions.
func (s *source) deed(config string, versions int) deed {
	switch s.below(16) {
	case 0, 1, 2, 3, 4, 5:
		return deed{call: "Stage", line: s.line(s.change())}
	case 6, 7, 8:
		return deed{call: "Commit"}
	case 9, 10:
		return deed{call: "Demand", line: s.line(s.demand(config))}
	case 11, 12:
		return deed{call: "Back", version: s.below(versions+2) - s.below(2)}
	case 13:
		return deed{call: "Undo"}
	case 14:
		return deed{call: "Ask", line: s.line(s.oneOf(s.query(), s.query()+"\n"+s.query(), "budget 2\n"+s.query(), "bogus", ""))}
	}
	return deed{call: s.oneOf("Version", "Config")}
}

// on does the deed and tells what is answered.
func (d deed) on(t *testing.T, g *gate.Gate) string {
	t.Helper()
	switch d.call {
	case "Stage":
		return outcome(t, g.Stage(d.line))
	case "Demand":
		return outcome(t, g.Demand(d.line))
	case "Commit":
		return outcome(t, g.Commit())
	case "Back":
		return outcome(t, g.Back(d.version))
	case "Undo":
		return fmt.Sprint(g.Undo())
	case "Version":
		return fmt.Sprint(g.Version())
	case "Config":
		return g.Config()
	}
	return resulted(g.Ask(d.line))
}

// resulted: all that a Result holds.
func resulted(r api.Result) string {
	text := fmt.Sprint(r.Kind, " ", int(r.Code), " ", r.Text, " ", r.Line)
	for _, reply := range r.Replies {
		text += replied(reply)
	}
	return text
}
