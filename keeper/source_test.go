package keeper_test

// Networks, changes of them, demands and calls, by a source of mixed numbers.

import (
	"fmt"
	"strings"
	"testing"

	"reach/api"
	"reach/run"
)

type source uint64

func (s *source) below(n int) int {
	*s = *s*6364136223846793005 + 1442695040888963407
	return int(uint64(*s) >> 33 % uint64(n))
}

func (s *source) oneOf(words ...string) string { return words[s.below(len(words))] }

func (s *source) match() string {
	return s.oneOf("any", fmt.Sprint("g = ", s.below(2)), fmt.Sprint("f = ", s.below(4)), fmt.Sprint("f < ", s.below(4)), fmt.Sprint("f != ", s.below(4), " & g = 1"))
}

func (s *source) box() string { return s.oneOf("A", "B") }

// rule: what stands behind a rule's priority.
func (s *source) rule() string {
	return s.oneOf("", "", " from a") + " match " + s.match() + s.oneOf("", "", " set g = 1") + s.oneOf(" drop", " to c", " to d", " to c, d")
}

// network: the text of a small well-formed one.
func (s *source) network() string {
	var b strings.Builder
	b.WriteString(s.oneOf("", "network \"a \\\" \\xff é\"\n") + "header f:2 g:1\nrouting f\n")
	for _, box := range []string{"A", "B"} {
		fmt.Fprintf(&b, "box %s\nin a b\nout c d\n", box)
		if s.below(4) == 0 {
			fmt.Fprintf(&b, "guard %s permit %s\n", s.oneOf("a", "b", "c", "d"), s.match())
		}
		for priority := range 1 + s.below(3) {
			fmt.Fprintf(&b, "rule %d%s\n", priority, s.rule())
		}
		if s.below(2) == 0 {
			fmt.Fprintf(&b, "%s %d/1 to %s\n", s.oneOf("own", "route"), 2*s.below(2), s.oneOf("c", "d"))
		}
	}
	for _, from := range []string{"A.c", "A.d", "B.c", "B.d"} {
		if s.below(3) == 0 {
			fmt.Fprintf(&b, "link %s -> %s.%s\n", from, s.box(), s.oneOf("a", "b"))
		}
	}
	return b.String() + "slice red A.a where any\nslice blue B.c where " + s.match() + "\n"
}

// change: a line for Stage; most are changes of such a network, some are refused, some make it ill-formed.
func (s *source) change() string {
	box, priority := s.box(), s.below(6)
	switch s.below(11) {
	case 0, 1, 2:
		return fmt.Sprint("at ", box, " rule ", priority, s.rule(), s.oneOf("", " # é\xff", "\n"))
	case 3, 4:
		return fmt.Sprint("no at ", box, " rule ", s.below(2))
	case 5:
		return s.oneOf("link A.c -> B.a", "link B.c -> A.b", "no link A.c", "no link B.c", "link A.d -> A.a")
	case 6:
		return s.oneOf("at "+box+" guard a permit "+s.match(), "no at "+box+" guard a")
	case 7:
		return s.oneOf("at "+box+" own 2/1 to c", "no at "+box+" own 2/1", "slice blue A.c where any", "no slice blue")
	case 8:
		return s.oneOf("at "+box+" in e", "no at "+box+" in e", "box D", "no box D", " box D # D\n")
	case 9:
		return s.oneOf("no at "+box+" out d", "no box "+box, "at "+box+" rule 7 match f = 9 drop", "no at "+box+" rule 7")
	}
	return s.oneOf("", "bogus", "rule 5 match any drop", "box E\nbox F", "box $", "at A rule 5 match (any drop", "at Z in a", "header f:2")
}

// query: one of some kind, of which not every network has all.
func (s *source) query() string {
	from := s.box() + "." + s.oneOf("a", "b")
	to := s.box() + "." + s.oneOf("a", "b", "c", "d", "c", "d", "e")
	hops := fmt.Sprint(" hops ", 1+s.below(4))
	switch s.below(8) {
	case 0, 1, 2:
		return s.oneOf("reach ", "missed ") + from + " to " + to + " where " + s.match() + hops
	case 3:
		return s.oneOf("loop ", "lost ") + from + " where " + s.match() + hops
	case 4:
		return "isolate " + s.oneOf("red from blue", "blue from red") + hops
	case 5:
		return "avoid " + from + " to " + to + ` where any along ".* B .*"` + hops
	case 6:
		return "trace " + from + " set f = " + s.oneOf("0", "1", "2", "3", "4") + hops
	}
	return "cover" + hops
}

// demand: a line for Demand; most hold for the text that is in force.
func (s *source) demand(config string) string {
	if s.below(6) == 0 {
		return s.oneOf("", "no", "# no cover hops 1", "cover hops 1", "no budget 5", "no\ncover hops 1", "some cover hops 65", "no $", "some bogus")
	}
	query := s.query()
	word := s.oneOf("no", "some")
	if r := run.Run(config, query); r.Kind == api.ResultReplies && s.below(4) > 0 {
		word = "no"
		if r.Replies[0].Found {
			word = "some"
		}
	}
	return s.oneOf("", "", " \t", "\r\n\n #é\xff\n  ") + word + s.oneOf(" ", "\t") + query + s.oneOf("", "", " # some", "\n", "\n\n # no \xff")
}

// deed is one call of a keeper.
type deed struct {
	call    string
	line    string
	version int
}

// line: most are as they are; some are much longer, so that the ledger gets full in some runs.
func (s *source) line(text string, long bool) string {
	if long && s.below(2) == 0 {
		return text + " #" + strings.Repeat("y", s.below(api.MaxText*5/4))
	}
	return text
}

// deed: the next call, of a keeper with this text in force and so many versions.
func (s *source) deed(config string, versions int, long bool) deed {
	switch s.below(16) {
	case 0, 1, 2, 3, 4, 5:
		return deed{call: "Stage", line: s.line(s.change(), long)}
	case 6, 7, 8:
		return deed{call: "Commit"}
	case 9, 10:
		return deed{call: "Demand", line: s.line(s.demand(config), long)}
	case 11, 12:
		return deed{call: "Back", version: s.below(versions+2) - s.below(2)}
	case 13:
		return deed{call: "Undo"}
	}
	return deed{call: "Ask", line: s.oneOf(s.query(), s.query()+"\n"+s.query(), "bogus", "")}
}

// gateLike is what a keeper and a gate have in common.
type gateLike interface {
	Demand(line string) error
	Stage(line string) error
	Commit() error
	Undo() int
	Back(version int) error
	Version() int
	Config() string
	Ask(query string) api.Result
}

// on does the deed and tells what is answered.
func (d deed) on(t *testing.T, g gateLike) string {
	t.Helper()
	switch d.call {
	case "Stage":
		return outcome(t, g.Stage(d.line))
	case "Demand":
		return outcome(t, g.Demand(d.line))
	case "Commit":
		return outcome(t, g.Commit())
	case "Back":
		return outcome(t, g.Back(d.version))
	case "Undo":
		return fmt.Sprint(g.Undo())
	}
	return resulted(g.Ask(d.line))
}
