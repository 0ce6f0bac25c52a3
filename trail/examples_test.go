package trail_test

// The examples of chapter 14, and those of the whole that ask its questions.

import (
	"fmt"
	"strings"
	"testing"

	"reach/api"
	"reach/conf"
	"reach/lower"
	"reach/trail"
)

func check(t *testing.T, what, got, want string) {
	t.Helper()
	if got != want {
		t.Errorf("%s: %s; want %s", what, got, want)
	}
}

// compiled: a pattern that must be one.
func compiled(t *testing.T, text string) *trail.Pattern {
	t.Helper()
	p, errno, at := trail.Compile(text)
	if p == nil || errno != api.OK || at != 0 {
		t.Fatalf("P14.1: Compile(%q) = %v, %d, %d", text, p, errno, at)
	}
	return p
}

// reading: what Compile says of a text, and what the pattern tells, in one line.
func reading(text string) string {
	p, errno, at := trail.Compile(text)
	switch {
	case errno == api.OK && at == 0 && p != nil:
		return fmt.Sprintf("%q", p.Text())
	case p != nil || errno == api.OK:
		return fmt.Sprintf("W3: the error %d at %d beside %v", errno, at, p)
	}
	return fmt.Sprint("error ", errno, " at ", at)
}

func refusal(at int) string { return fmt.Sprint("error ", api.ErrPattern, " at ", at) }

func quoted(text string) string { return fmt.Sprintf("%q", text) }

func TestExamplesOfTexts(t *testing.T) {
	for text, want := range map[string]string{
		"R1 .* FW  .*R4":     "R1 .* FW .* R4",
		"((a))(b c)|(d|())*": "a b c | (d | ())*",
		"(a*)+":              "a*+",
		"(a b)?":             "(a b)?",
		"()":                 "",
		"R1.a.*":             "R1.a .*",
		"R1.*":               "R1 .*",
	} {
		check(t, "P14.2: "+text, reading(text), quoted(want))
	}
}

func TestExamplesOfRefusals(t *testing.T) {
	for text, at := range map[string]int{"*": 0, "a)": 1, "(a": 2, "! a": 1, "a$": 1, "a | *": 4, "!": 1} {
		check(t, "P14.1: "+text, reading(text), refusal(at))
	}
}

func TestExamplesOfMatch(t *testing.T) {
	for _, e := range []struct {
		text, names string
		want        bool
	}{
		{"R1 .* R4", "R1.a R1.c R4.a", true},
		{"R1 .* R4", "R1.a R4", false},
		{"R1.a !R2* R3", "R1.a R1.c R3.b", true},
		{"R1.a !R2* R3", "R1.a R2.a R3.b", false},
		{"", "", true},
		{"", "R1.a", false},
		{"a*+?", "", true},
		// What the chapter's first words say.
		{"R1 .* FW .* R4", "R1.a R1.b FW.a FW.b R4.a", true},
		{"R1 .* FW .* R4", "R1.a R1.b R4.a R4.b", false},
		{"R1 .* FW .* R4", "R1.a FW.x R4.a R4.b R5.c", false},
	} {
		if compiled(t, e.text).Match(strings.Fields(e.names)) != e.want {
			t.Errorf("P14.3: %q means %q: %v", e.text, e.names, !e.want)
		}
	}
}

// text: all that an answer tells, in one line.
func text(a api.Answer, errno api.Errno) string {
	if errno != api.OK {
		if fmt.Sprint(a) != fmt.Sprint(api.Answer{}) {
			return fmt.Sprintf("W3: the error %d beside %v", errno, a)
		}
		return fmt.Sprint("error ", errno)
	}
	if !a.Found {
		if fmt.Sprint(a) != fmt.Sprint(api.Answer{Start: a.Start, Space: "none"}) {
			return fmt.Sprintf("P14.4: not found beside %v", a)
		}
		return fmt.Sprint("none from ", a.Start)
	}
	return fmt.Sprint(a.Space, " from ", a.Start, ": ", a.Witness, " ", a.Ports, a.Entries, " ", a.Final)
}

func find(n api.Net, from int, where, pattern string, hops, budget int) string {
	return text(trail.Find(n, from, where, pattern, hops, budget))
}

func avoid(n api.Net, from, to int, where, pattern string, hops, budget int) string {
	return text(trail.Avoid(n, from, to, where, pattern, hops, budget))
}

// labText: the network L of the examples of the whole.
const labText = `
network "lab"
header dst:4 tag:2
routing dst
box A
  in a
  out c d
  guard a deny dst = 15
  guard a permit any
  rule 10 match tag = 3 set tag = 0 to d
  rule 5 match dst < 4 to c, d
box B
  in a
  out b e
  rule 7 match tag = 1 set tag = 2 to e
  own 8/1 to b
link A.c -> B.a
link B.e -> A.a
slice red A.a where tag = 1
slice blue B.b where any
`

func lab(t *testing.T) api.Net {
	t.Helper()
	c, errno, line := conf.Parse(labText)
	if errno != api.OK {
		t.Fatalf("Parse: %d in line %d", errno, line)
	}
	n, errno := lower.Lower(c)
	if errno != api.OK {
		t.Fatalf("Lower: %d", errno)
	}
	return n
}

// The ports are 0 A.a, 1 A.c, 2 A.d, 3 B.a, 4 B.b, 5 B.e; the entries 0 A rule 10, 1 A rule 5, 2 A way 8/1, 3 B rule 7, 4 B own 8/1.
func TestExamplesOfTheWhole(t *testing.T) {
	n, all := lab(t), "xxxxxx"
	check(t, "7 of the whole", find(n, 0, all, "A .* B.e .*", 2, api.MaxBudget), "00xx01+1xxx01-111101 from 0: 000001 [0 1 3 5] [1 3] 000010")
	check(t, "8 of the whole", avoid(n, 0, 2, all, ".* B .*", 1, api.MaxBudget), "00xxxx-00xx11+xxxx11-111111 from 0: 000000 [0 2] [1] 000000")
}

// exampleNet: the network n of chapters 12 and 13.
func exampleNet() api.Net {
	return api.Net{
		Bits: 2,
		Ports: []api.Port{
			{Name: "R1.a", Box: 0, In: true, To: -1}, {Name: "R1.c", Box: 0, To: 2},
			{Name: "R2.a", Box: 1, In: true, To: -1}, {Name: "R2.b", Box: 1, To: 0}, {Name: "R2.d", Box: 1, To: -1},
		},
		Tables: [][]api.Entry{
			{{Ins: []int{0}, Cubes: []string{"xx"}, Write: "xx", Outs: []int{1}}},
			{{Ins: []int{2}, Cubes: []string{"0x"}, Write: "1x", Outs: []int{3, 4}}, {Ins: []int{2}, Cubes: []string{"1x"}, Write: "xx", Outs: []int{4}}},
		},
		Guards: make([][]api.Guard, 5),
	}
}

// Paths that end within a step: at a linked out-port, or behind its link.
func TestCuts(t *testing.T) {
	n := exampleNet()
	for _, e := range []struct{ pattern, want string }{
		{"R1.a", "xx from 0: 00 [0] [] 00"},
		{"R1 R1", "xx from 0: 00 [0 1] [0] 00"},
		{"R1 R1 R2", "xx from 0: 00 [0 1 2] [0] 00"},
		{"R1+ R2?", "xx from 0: 00 [0] [] 00"},
		{"R1 R1 R2?", "xx from 0: 00 [0 1] [0] 00"},
		{".* R2 R1 .*", "0x from 0: 00 [0 1 2 3 0] [0 1] 10"},
		{".* R2.b .*", "0x from 0: 00 [0 1 2 3] [0 1] 10"},
		{".* R2.d", "0x+1x from 0: 00 [0 1 2 4] [0 1] 10"},
		{"R1 !R1.a* R2.d", "0x+1x from 0: 00 [0 1 2 4] [0 1] 10"},
		{"", "none from 0"},
		{"R2 .*", "none from 0"},
		{"R1.a .* R1.a .* R2.d", "0x from 0: 00 [0 1 2 3 0 1 2 4] [0 1 0 2] 10"},
	} {
		check(t, "P14.4: "+e.pattern, find(n, 0, "xx", e.pattern, 4, 20), e.want)
	}
	for _, e := range []struct {
		to            int
		pattern, want string
	}{
		{0, "R1.a", "0x from 0: 00 [0 1 2 3 0] [0 1] 10"},
		{0, "R1.a .*", "none from 0"},
		{1, "", "xx from 0: 00 [0 1] [0] 00"},
		{2, "R1 R1", "xx from 0: 00 [0 1 2] [0] 00"},
		{2, "R1 R1 R2", "0x from 0: 00 [0 1 2 3 0 1 2] [0 1 0] 10"},
		{4, ".* R2.b .*", "0x+1x from 0: 00 [0 1 2 4] [0 1] 10"},
		{4, "R1* R2.a R2.d", "0x from 0: 00 [0 1 2 3 0 1 2 4] [0 1 0 2] 10"},
		{3, ".* R2", "none from 0"},
	} {
		check(t, fmt.Sprint("P14.5: to ", e.to, ": ", e.pattern), avoid(n, 0, e.to, "xx", e.pattern, 4, 20), e.want)
	}
}

// From a linked out-port a path may be the port alone, or with the in-port behind the link.
func TestCutsFromAnOutPort(t *testing.T) {
	n := exampleNet()
	check(t, "P14.4", find(n, 1, "x1", ".", 0, 1), "x1 from 1: 01 [1] [] 01")
	check(t, "P14.4", find(n, 1, "x1", ". R2", 0, 1), "x1 from 1: 01 [1 2] [] 01")
	check(t, "P14.4", find(n, 1, "x1", ".*", 0, 1), "x1 from 1: 01 [1] [] 01")
	check(t, "P14.4", find(n, 1, "x1", ". . .", 0, 1), "none from 1")
	check(t, "P14.5", avoid(n, 1, 1, "x1", ". .", 0, 1), "x1 from 1: 01 [1] [] 01")
	check(t, "P14.5", avoid(n, 1, 2, "x1", ".", 0, 1), "x1 from 1: 01 [1 2] [] 01")
	check(t, "P14.5", avoid(n, 1, 2, "x1", ". .", 0, 1), "none from 1")
	check(t, "P14.5", avoid(n, 1, 3, "x1", "", 0, 1), "none from 1")
}
