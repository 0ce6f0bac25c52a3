package query_test

// The examples of chapter 13, and those of the whole that ask its questions.

import (
	"fmt"
	"testing"

	"reach/api"
	"reach/conf"
	"reach/lower"
	"reach/model"
	"reach/query"
)

// exampleNet: the network n of the examples.
func exampleNet() api.Net {
	return api.Net{
		Bits: 2,
		Ports: []api.Port{
			{Name: "R1.a", Box: 0, In: true, To: -1}, {Name: "R1.c", Box: 0, To: 2},
			{Name: "R2.a", Box: 1, In: true, To: -1}, {Name: "R2.b", Box: 1, To: 0}, {Name: "R2.d", Box: 1, To: -1},
		},
		Tables: [][]api.Entry{
			{{Ins: []int{0}, Cubes: []string{"xx"}, Write: "xx", Outs: []int{1}}},
			{{Ins: []int{2}, Cubes: []string{"0x"}, Write: "1x", Outs: []int{3, 4}}, {Ins: []int{2}, Cubes: []string{"1x"}, Write: "xx", Outs: []int{4}}},
		},
		Guards: make([][]api.Guard, 5),
	}
}

// lossyNet: the network m of the examples.
func lossyNet() api.Net {
	n := exampleNet()
	n.Tables[1][1].Cubes = []string{"11"}
	return n
}

// text: all that an answer tells, in one line.
func text(a api.Answer, errno api.Errno) string {
	if errno != api.OK {
		if fmt.Sprint(a) != fmt.Sprint(api.Answer{}) {
			return fmt.Sprintf("W3: the error %d beside %v", errno, a)
		}
		return fmt.Sprint("error ", errno)
	}
	if !a.Found {
		if fmt.Sprint(a) != fmt.Sprint(api.Answer{Start: a.Start, Space: "none"}) {
			return fmt.Sprintf("P13.2: not found beside %v", a)
		}
		return fmt.Sprint("none from ", a.Start)
	}
	return fmt.Sprint(a.Space, " from ", a.Start, ": ", a.Witness, " ", a.Ports, a.Entries, " ", a.Final)
}

func reach(n api.Net, from, to int, where string, hops, budget int) string {
	return text(query.Reach(n, from, to, where, hops, budget))
}

func missed(n api.Net, from, to int, where string, hops, budget int) string {
	return text(query.Missed(n, from, to, where, hops, budget))
}

func loop(n api.Net, from int, where string, hops, budget int) string {
	return text(query.Loop(n, from, where, hops, budget))
}

func lost(n api.Net, from int, where string, hops, budget int) string {
	return text(query.Lost(n, from, where, hops, budget))
}

func isolate(n api.Net, p, q api.Zone, hops, budget int) string {
	return text(query.Isolate(n, p, q, hops, budget))
}

func zone(space string, ports ...int) api.Zone { return api.Zone{Ports: ports, Space: space} }

func check(t *testing.T, what, got, want string) {
	t.Helper()
	if got != want {
		t.Errorf("%s: %s; want %s", what, got, want)
	}
}

func TestExamples(t *testing.T) {
	n, m := exampleNet(), lossyNet()
	check(t, "P13.3", reach(n, 0, 4, "xx", 2, 10), "0x+1x from 0: 00 [0 1 2 4] [0 1] 10")
	check(t, "P13.3", reach(n, 0, 4, "1x", 2, 10), "1x from 0: 10 [0 1 2 4] [0 2] 10")
	check(t, "P13.3", reach(n, 0, 4, "xx", 1, 10), "none from 0")
	check(t, "P13.3", reach(n, 0, 0, "xx", 2, 10), "xx from 0: 00 [0] [] 00")
	check(t, "P13.3", reach(n, 0, 2, "xx", 2, 10), "xx from 0: 00 [0 1 2] [0] 00")
	check(t, "P13.2", reach(n, 0, 4, "xx", 2, 4), "error 3")
	check(t, "P13.1", reach(n, 0, 5, "xxx", -1, 0), "error 120")
	check(t, "P13.1", reach(n, 0, 4, "xxx", -1, 0), "error 20")
	check(t, "P13.1", reach(n, 0, 4, "xx", -1, 0), "error 1")
	check(t, "P13.4", missed(n, 0, 4, "xx", 2, 10), "none from 0")
	check(t, "P13.4", missed(n, 0, 3, "xx", 2, 10), "xx-0x from 0: 10 [0] [] 10")
	check(t, "P13.5", loop(n, 0, "xx", 4, 10), "0x from 0: 00 [0 1 2 3 0] [0 1] 10")
	check(t, "P13.5", loop(n, 0, "1x", 4, 10), "none from 0")
	check(t, "P13.6", lost(n, 0, "xx", 4, 20), "none from 0")
	// Gone at the port 2 is all less 0x and 11.
	check(t, "P13.6", lost(m, 0, "xx", 2, 10), "xx-0x-11 from 0: 10 [0 1 2] [0] 10")
	check(t, "P13.7", isolate(n, zone("0x", 0), zone("11", 4), 2, 10), "01 from 0: 01 [0 1 2 4] [0 1] 11")
	check(t, "P13.7", isolate(n, zone("1x", 0), zone("xx", 3), 2, 10), "none from 0")
	check(t, "P13.7", isolate(n, zone("xx"), zone("xx", 0), 2, 10), "none from 0")
}

func TestExamplesOfReplay(t *testing.T) {
	n := exampleNet()
	a, errno := query.Reach(n, 0, 4, "xx", 2, 10)
	if errno != api.OK || query.Replay(n, a) != api.OK {
		t.Errorf("P13.10: %s: %d", text(a, errno), query.Replay(n, a))
	}
	b, c, d := a, a, a
	b.Entries, c.Final, d.Space = []int{0, 2}, "00", "1x"
	for _, a := range []api.Answer{b, c, d} {
		if errno := query.Replay(n, a); errno != api.ErrReplay {
			t.Errorf("P13.10: %s: %d", text(a, api.OK), errno)
		}
	}
}

// labText: the network L of the examples of the whole.
const labText = `
network "lab"
header dst:4 tag:2
routing dst
box A
  in a
  out c d
  guard a deny dst = 15
  guard a permit any
  rule 10 match tag = 3 set tag = 0 to d
  rule 5 match dst < 4 to c, d
box B
  in a
  out b e
  rule 7 match tag = 1 set tag = 2 to e
  own 8/1 to b
link A.c -> B.a
link B.e -> A.a
slice red A.a where tag = 1
slice blue B.b where any
`

// lab: its numbers, and those of its slices.
func lab(t *testing.T) (api.Net, api.Zone, api.Zone) {
	t.Helper()
	c, errno, line := conf.Parse(labText)
	if errno != api.OK {
		t.Fatalf("Parse: %d in line %d", errno, line)
	}
	n, errno := lower.Lower(c)
	if errno != api.OK {
		t.Fatalf("Lower: %d", errno)
	}
	red, errno := model.Zone(c, "red")
	if errno != api.OK {
		t.Fatalf("Zone: %d", errno)
	}
	blue, errno := model.Zone(c, "blue")
	if errno != api.OK {
		t.Fatalf("Zone: %d", errno)
	}
	return n, red, blue
}

// The entries are 0 A rule 10, 1 A rule 5, 2 A way 8/1, 3 B rule 7, 4 B own 8/1.
func TestExamplesOfTheWhole(t *testing.T) {
	n, red, blue := lab(t)
	all := "xxxxxx"
	check(t, "1 of the whole", reach(n, 0, 4, all, 4, 1024), "1xxx01-111101+1xxxxx-1111xx-1xxx01-1xxx11 from 0: 100000 [0 1 3 4] [2 4] 100000")
	check(t, "1 of the whole", reach(n, 0, 4, all, 4, 23), "1xxx01-111101+1xxxxx-1111xx-1xxx01-1xxx11 from 0: 100000 [0 1 3 4] [2 4] 100000")
	check(t, "2 of the whole", reach(n, 0, 4, all, 4, 22), "error 3")
	check(t, "3 of the whole", loop(n, 0, all, 6, 1024), "00xx01+1xxx01-111101 from 0: 000001 [0 1 3 5 0] [1 3] 000010")
	check(t, "4 of the whole", lost(n, 0, all, 2, 1024), "00xxxx-00xx01-00xx11+1111xx+xxxxxx-00xxxx-1xxxxx-xxxx11 from 0: 000000 [0 1 3] [1] 000000")
	check(t, "5 of the whole", missed(n, 0, 4, "10xxxx", 4, 1024), "10xx11 from 0: 100011 [0] [] 100011")
	check(t, "6 of the whole", isolate(n, red, blue, 4, 1024), "1xxx01-111101 from 0: 100001 [0 1 3 5 0 1 3 4] [2 3 2 4] 100010")
	check(t, "10 of the whole", loop(n, 0, "xxxx10", 64, 1024), "none from 0")
}
