package delta_test

// The examples of chapter 16, and a change of the network of the examples of the whole.

import (
	"fmt"
	"strings"
	"testing"

	"reach/api"
	"reach/conf"
	"reach/delta"
	"reach/lower"
)

// exampleNet: a network of the examples, by the cube of its one entry.
func exampleNet(cube string) api.Net {
	return api.Net{
		Bits:   1,
		Ports:  []api.Port{{Name: "A.i", In: true, To: -1}, {Name: "A.o", To: -1}},
		Tables: [][]api.Entry{{{Ins: []int{0}, Cubes: []string{cube}, Write: "x", Outs: []int{1}}}},
		Guards: make([][]api.Guard, 2),
	}
}

// tell: all that an answer tells, in one line.
func tell(a api.Answer) string {
	if a.Found {
		return fmt.Sprint(a.Space, " from ", a.Start, ": ", a.Witness, " ", a.Ports, a.Entries, " ", a.Final)
	}
	if a.Witness+a.Final != "" || len(a.Ports)+len(a.Entries) > 0 {
		return fmt.Sprintf("W3: nothing found beside %v", a)
	}
	return fmt.Sprint(a.Space, " from ", a.Start)
}

func text(d api.Delta, errno api.Errno) string {
	if errno != api.OK {
		if fmt.Sprint(d) != fmt.Sprint(api.Delta{}) {
			return fmt.Sprintf("W3: the error %d beside %v", errno, d)
		}
		return fmt.Sprint("error ", errno)
	}
	return tell(d.Gained) + "; " + tell(d.Lost)
}

func compare(a, b api.Net, from, to int, where string, hops, budget int) string {
	return text(delta.Compare(a, b, from, to, where, hops, budget))
}

func check(t *testing.T, what, got, want string) {
	t.Helper()
	if got != want {
		t.Errorf("%.2000s: %.2000s; want %.2000s", what, got, want)
	}
}

func TestExamples(t *testing.T) {
	a, b := exampleNet("0"), exampleNet("x")
	check(t, "P16.2", compare(a, b, 0, 1, "x", 1, 9), "x-0 from 0: 1 [0 1] [0] 1; none from 0")
	check(t, "P16.2", compare(b, a, 0, 1, "x", 1, 9), "none from 0; x-0 from 0: 1 [0 1] [0] 1")
	check(t, "P16.2", compare(a, b, 0, 1, "0", 1, 9), "none from 0; none from 0")
	check(t, "P16.2", compare(a, b, 0, 1, "x", 0, 9), "none from 0; none from 0")
	check(t, "P16.2", compare(a, b, 0, 0, "x", 0, 9), "none from 0; none from 0")
	check(t, "P16.1", compare(a, b, 0, 2, "x", 1, 9), "error 120")
	check(t, "P16.1", compare(a, api.Net{}, 0, 1, "x", 1, 9), "error 90")
}

// labText: the network L of the examples of the whole.
const labText = `
network "lab"
header dst:4 tag:2
routing dst
box A
  in a
  out c d
  guard a deny dst = 15
  guard a permit any
  rule 10 match tag = 3 set tag = 0 to d
  rule 5 match dst < 4 to c, d
box B
  in a
  out b e
  rule 7 match tag = 1 set tag = 2 to e
  own 8/1 to b
link A.c -> B.a
link B.e -> A.a
slice red A.a where tag = 1
slice blue B.b where any
`

// read: the network of a text.
func read(t *testing.T, text string) api.Config {
	t.Helper()
	c, errno, line := conf.Parse(text)
	if errno != api.OK {
		t.Fatalf("Parse: %d in line %d of %s", errno, line, text)
	}
	return c
}

// edited: a network behind these changes.
func edited(t *testing.T, c api.Config, lines ...string) api.Config {
	t.Helper()
	for _, line := range lines {
		var errno api.Errno
		if c, errno = conf.Edit(c, line); errno != api.OK {
			t.Fatalf("P16.3: Edit refuses %q of %.3000q with %d", line, lines, errno)
		}
	}
	return c
}

// numbered: a network's numbers.
func numbered(t *testing.T, c api.Config) api.Net {
	t.Helper()
	n, errno := lower.Lower(c)
	if errno != api.OK {
		t.Fatalf("Lower: %d", errno)
	}
	return n
}

// The ports are 0 A.a, 1 A.c, 2 A.d, 3 B.a, 4 B.b, 5 B.e; the entries 0 A rule 10, 1 A rule 5, 2 A way 8/1, 3 B rule 7, 4 B own 8/1.
func TestTheNetworkOfTheWhole(t *testing.T) {
	a := read(t, labText)
	n := numbered(t, a)
	check(t, "P16.2: the same", compare(n, n, 0, 4, "xxxxxx", 4, 100), "none from 0; none from 0")
	// Without the guard dst = 15 comes there, too; without the link back what is tagged 1 does not.
	open := edited(t, a, "no at A guard a")
	check(t, "P16.2: no guard", compare(n, numbered(t, open), 0, 4, "xxxxxx", 4, 100), "111101+1111xx-111101-111111 from 0: 111100 [0 1 3 4] [2 4] 111100; none from 0")
	apart := edited(t, a, "no link B.e")
	check(t, "P16.2: no link", compare(n, numbered(t, apart), 0, 4, "xxxx01", 4, 100), "none from 0; 1xxx01-111101 from 0: 100001 [0 1 3 5 0 1 3 4] [2 3 2 4] 100010")
	check(t, "P16.2: no link", compare(numbered(t, apart), n, 0, 4, "xxxx01", 4, 100), "1xxx01-111101 from 0: 100001 [0 1 3 5 0 1 3 4] [2 3 2 4] 100010; none from 0")
	lines, errno := delta.Changes(a, apart)
	check(t, "P16.3: no link", fmt.Sprintf("%q %d", lines, errno), `["no link B.e"] 0`)
	lines, errno = delta.Changes(apart, a)
	check(t, "P16.3: a link", fmt.Sprintf("%q %d", lines, errno), `["link B.e -> A.a"] 0`)
	lines, errno = delta.Changes(a, open)
	check(t, "P16.3: no guard", fmt.Sprintf("%q %d", lines, errno), `["no at A guard a"] 0`)
	if lines, errno = delta.Changes(open, a); errno != api.OK || strings.Join(lines, "; ") != "at A guard a deny dst = 15; at A guard a permit any" {
		t.Errorf("P16.3: the guard: %q, %d", lines, errno)
	}
}
