package flow_test

import (
	"fmt"
	"strings"
	"testing"

	"reach/api"
	"reach/conf"
	"reach/flow"
	"reach/lower"
	"reach/space"
)

// The examples of chapter 12, by their numbers.

func exampleNet() api.Net {
	return api.Net{
		Bits: 2,
		Ports: []api.Port{
			{Name: "R1.a", Box: 0, In: true, To: -1}, {Name: "R1.c", Box: 0, To: 2},
			{Name: "R2.a", Box: 1, In: true, To: -1}, {Name: "R2.b", Box: 1, To: 0}, {Name: "R2.d", Box: 1, To: -1},
		},
		Tables: [][]api.Entry{
			{{Ins: []int{0}, Cubes: []string{"xx"}, Write: "xx", Outs: []int{1}}},
			{{Ins: []int{2}, Cubes: []string{"0x"}, Write: "1x", Outs: []int{3, 4}}, {Ins: []int{2}, Cubes: []string{"1x"}, Write: "xx", Outs: []int{4}}},
		},
		Guards: make([][]api.Guard, 5),
	}
}

// flowText: all that a flow tells, in one line.
func flowText(f api.Flow) string {
	return fmt.Sprint(f.Ports, f.Entries, " ", f.New, " ", f.Parent, " ", f.Origin, " ", f.Write)
}

func walkText(w *flow.Walk) string {
	var lines []string
	for i, f := range w.All() {
		lines = append(lines, fmt.Sprint(i, ": ", flowText(f)))
	}
	return strings.Join(lines, "\n")
}

// walked: a walk that must be one.
func walked(t *testing.T, n api.Net, start int, from string, hops, budget int, stop bool) *flow.Walk {
	t.Helper()
	w, errno := flow.New(n, start, from, hops, budget, stop)
	if w == nil || errno != api.OK {
		t.Fatalf("P12.1: New(%.2000s, %d, %.200q, %d, %d, %v) = %v, %d", fmt.Sprint(n), start, from, hops, budget, stop, w, errno)
	}
	return w
}

func checkWalk(t *testing.T, what string, w *flow.Walk, size int, lines ...string) {
	t.Helper()
	for i := range lines {
		lines[i] = fmt.Sprint(i, ": ", lines[i])
	}
	if got := walkText(w); got != strings.Join(lines, "\n") || w.Size() != size {
		t.Errorf("P12.2, P12.3: %s: size %d, want %d;\n%s", what, w.Size(), size, got)
	}
}

func checkRefused(t *testing.T, what string, n api.Net, start int, from string, hops, budget int, want api.Errno) {
	t.Helper()
	for _, stop := range []bool{false, true} {
		if w, errno := flow.New(n, start, from, hops, budget, stop); w != nil || errno != want {
			t.Errorf("P12.1: %s: New(.., %d, %.60q, %d, %d, %v) = %v, %d; want %d", what, start, from, hops, budget, stop, w, errno, want)
		}
	}
}

// exampleFlows: the flows of the examples 1 to 3.
func exampleFlows() []string {
	return []string{
		"[0] [] 1 -1 xx xx",
		"[0 1 2] [0] 2 0 xx xx",
		"[0 1 2 3 0] [0 1] 2 1 0x 1x",
		"[0 1 2 4] [0 1] 1 1 0x 1x",
		"[0 1 2 4] [0 2] 1 1 1x xx",
		"[0 1 2 3 0 1 2] [0 1 0] 2 2 0x 1x",
		"[0 1 2 3 0 1 2 4] [0 1 0 2] 1 5 0x 1x",
	}
}

func TestExamplesOfFlows(t *testing.T) {
	n := exampleNet()
	for _, c := range []struct {
		hops, flows int
		stop        bool
	}{{0, 1, false}, {1, 2, false}, {2, 5, false}, {3, 6, false}, {4, 7, false}, {5, 7, false}, {64, 7, false}, {2, 5, true}, {3, 5, true}, {4, 5, true}, {64, 5, true}} {
		w := walked(t, n, 0, "xx", c.hops, 10, c.stop)
		checkWalk(t, fmt.Sprint("1 to 3: ", c), w, c.flows, exampleFlows()[:c.flows]...)
	}
}

func TestExamplesOfTheBudget(t *testing.T) {
	n := exampleNet()
	checkRefused(t, "4", n, 0, "xx", 2, 4, api.ErrBudget)
	checkWalk(t, "4", walked(t, n, 0, "xx", 2, 5, false), 5, exampleFlows()[:5]...)
	checkWalk(t, "4", walked(t, n, 0, "1x", 2, 4, false), 3, "[0] [] 1 -1 1x xx", "[0 1 2] [0] 2 0 1x xx", "[0 1 2 4] [0 2] 1 1 1x xx")
}

func TestExamplesOfAtAndFirst(t *testing.T) {
	w := walked(t, exampleNet(), 0, "xx", 2, 10, false)
	for port, want := range []string{"xx", "xx", "xx", "0x", "0x+1x"} {
		if text, errno := w.At(port); text != want || errno != api.OK {
			t.Errorf("5: At(%d) = %q, %d", port, text, errno)
		}
	}
	if text, errno := w.At(5); text != "" || errno != api.ErrStart {
		t.Errorf("5: At(5) = %q, %d", text, errno)
	}
	for _, c := range []struct {
		port   int
		header string
		want   int
	}{{4, "10", 4}, {4, "01", 3}, {0, "00", 0}, {2, "00", 1}, {3, "00", 2}, {4, "1", -1}} {
		i, f := w.First(c.port, c.header)
		want := flowText(api.Flow{})
		if c.want >= 0 {
			want = exampleFlows()[c.want]
		}
		if i != c.want || flowText(f) != want {
			t.Errorf("5: First(%d, %q) = %d, %s", c.port, c.header, i, flowText(f))
		}
	}
}

func TestExamplesOfTheStart(t *testing.T) {
	n := exampleNet()
	checkWalk(t, "6", walked(t, n, 1, "xx", 0, 10, false), 1, "[1 2] [] 2 -1 xx xx")
	checkWalk(t, "6", walked(t, n, 0, "none", 3, 1, false), 0)
	checkRefused(t, "6", n, 5, "xx", 0, 10, api.ErrStart)
	checkRefused(t, "6", n, 5, "xxx", -1, 0, api.ErrStart)
	checkRefused(t, "6", n, 0, "xxx", -1, 0, api.ErrForm)
	checkRefused(t, "6", n, 0, "none", -1, 1, api.ErrArg)
}

// lab: the network L of the examples of the whole.
const lab = `
network "lab"
header dst:4 tag:2
routing dst
box A
  in a
  out c d
  guard a deny dst = 15
  guard a permit any
  rule 10 match tag = 3 set tag = 0 to d
  rule 5 match dst < 4 to c, d
box B
  in a
  out b e
  rule 7 match tag = 1 set tag = 2 to e
  own 8/1 to b
link A.c -> B.a
link B.e -> A.a
slice red A.a where tag = 1
slice blue B.b where any
`

// The examples 1 and 2 of the whole say the sizes of all origins, and what comes to the port 4.
func TestTheLab(t *testing.T) {
	c, errno, line := conf.Parse(lab)
	if errno != api.OK {
		t.Fatalf("Parse: %d in line %d", errno, line)
	}
	n, errno := lower.Lower(c)
	if errno != api.OK {
		t.Fatalf("Lower: %d", errno)
	}
	w := walked(t, n, 0, "xxxxxx", 4, 23, false)
	var sizes []int
	for _, f := range w.All() {
		origin, _ := space.Parse(6, f.Origin)
		sizes = append(sizes, origin.Size())
	}
	if got := fmt.Sprint(sizes); got != "[1 2 2 2 3 1 2 4 1 1 2 2]" || w.Size() != 23 {
		t.Errorf("1 of the whole: the sizes are %s, together %d", got, w.Size())
	}
	if text, errno := w.At(4); text != "1xxx01-111101+1xxxxx-1111xx-1xxx01-1xxx11" || errno != api.OK {
		t.Errorf("1 of the whole: At(4) = %q, %d", text, errno)
	}
	i, f := w.First(4, "100000")
	if i < 0 || fmt.Sprint(f.Ports) != "[0 1 3 4]" || len(f.Entries) != 2 {
		t.Errorf("1 of the whole: First(4, 100000) = %d, %s", i, flowText(f))
	}
	checkRefusedOnce(t, n, "xxxxxx", 4, 22, false)
}
