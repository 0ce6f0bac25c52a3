package cover_test

// The examples of chapter 15, and that of the whole that asks for test packets.

import (
	"fmt"
	"strings"
	"testing"

	"reach/api"
	"reach/conf"
	"reach/cover"
	"reach/lower"
)

// exampleNet: the network n of the examples.
func exampleNet() api.Net {
	return api.Net{
		Bits: 2,
		Ports: []api.Port{
			{Name: "R1.a", Box: 0, In: true, To: -1}, {Name: "R1.c", Box: 0, To: 2},
			{Name: "R2.a", Box: 1, In: true, To: -1}, {Name: "R2.b", Box: 1, To: 0}, {Name: "R2.d", Box: 1, To: -1},
		},
		Tables: [][]api.Entry{
			{{Ins: []int{0}, Cubes: []string{"xx"}, Write: "xx", Outs: []int{1}}},
			{{Ins: []int{2}, Cubes: []string{"0x"}, Write: "1x", Outs: []int{3, 4}}, {Ins: []int{2}, Cubes: []string{"1x"}, Write: "xx", Outs: []int{4}}},
		},
		Guards: make([][]api.Guard, 5),
	}
}

// text: all that a coverage tells, in one line: the packets as port:header[hits], the number of live entries, the dead ones as entry:why.
func text(c api.Coverage, errno api.Errno) string {
	if errno != api.OK {
		if len(c.Packets)+len(c.Dead)+c.Live != 0 {
			return fmt.Sprintf("W3: the error %d beside %v", errno, c)
		}
		return fmt.Sprint("error ", errno)
	}
	var words []string
	for _, p := range c.Packets {
		words = append(words, fmt.Sprint(p.Port, ":", p.Header, p.Hits))
	}
	words = append(words, fmt.Sprint("live ", c.Live))
	for _, d := range c.Dead {
		words = append(words, fmt.Sprint(d.Entry, ":", d.Why))
	}
	return strings.Join(words, " ")
}

func covered(n api.Net, doors []int, hops, budget int) string {
	return text(cover.Cover(n, doors, hops, budget))
}

func meets(n api.Net, door, entry, hops, budget int) string {
	s, errno := cover.Meets(n, door, entry, hops, budget)
	if errno != api.OK {
		if s != "" {
			return fmt.Sprintf("W3: the error %d beside %s", errno, s)
		}
		return fmt.Sprint("error ", errno)
	}
	return s
}

func doorsOf(n api.Net) string {
	doors, errno := cover.Doors(n)
	if errno != api.OK {
		if doors != nil {
			return fmt.Sprintf("W3: the error %d beside %v", errno, doors)
		}
		return fmt.Sprint("error ", errno)
	}
	return fmt.Sprint(doors)
}

func check(t *testing.T, what, got, want string) {
	t.Helper()
	if got != want {
		t.Errorf("%s: %s; want %s", what, got, want)
	}
}

func TestExamples(t *testing.T) {
	n := exampleNet()
	check(t, "P15.1", doorsOf(n), "[]")
	check(t, "P15.3", covered(n, nil, 8, 100), "live 0 0:3 1:3 2:3")
	check(t, "P15.2", meets(n, 0, 2, 2, 10), "1x")
	check(t, "P15.2", meets(n, 0, 2, 4, 10), "0x+1x")
	check(t, "P15.2", meets(n, 0, 0, 1, 10), "xx")
	check(t, "P15.2", meets(n, 0, 0, 0, 10), "none")
	check(t, "P15.3", covered(n, []int{0}, 2, 10), "0:00[0 1] 0:10[0 2] live 3")
	check(t, "P15.3", covered(n, []int{0}, 4, 10), "0:00[0 1 2] live 3")
	check(t, "P15.3", covered(n, []int{2}, 1, 10), "2:00[1] 2:10[2] live 2 0:3")
	check(t, "P15.2", meets(n, 1, 0, 1, 10), "error 150")
	check(t, "P15.2", meets(n, 0, 3, 1, 10), "error 1")
	check(t, "P15.3", covered(n, []int{0, 0}, 1, 10), "error 150")
	check(t, "P15.3", covered(n, []int{0}, 65, 0), "error 1")
}

// An entry behind one that leaves it nothing, and entries without cubes or in-ports, wherever they stand.
func TestExamplesOfTheDead(t *testing.T) {
	n := exampleNet()
	n.Tables[0] = append(n.Tables[0], api.Entry{Ins: []int{0}, Cubes: []string{"1x"}, Write: "xx", Outs: []int{1}})
	check(t, "P15.3: hidden", covered(n, []int{0}, 4, 10), "0:00[0 2 3] live 3 1:2")
	check(t, "P15.3: hidden, and no doors", covered(n, nil, 4, 10), "live 0 0:3 1:2 2:3 3:3")
	for _, empty := range []api.Entry{{Ins: []int{0}, Write: "xx", Outs: []int{1}}, {Cubes: []string{"xx"}, Write: "xx"}, {Write: "xx"}} {
		n = exampleNet()
		n.Tables[0] = append([]api.Entry{empty}, n.Tables[0]...)
		check(t, "P15.3: empty, the first", covered(n, []int{0}, 4, 10), "0:00[1 2 3] live 3 0:1")
		n = exampleNet()
		n.Tables[0] = append(n.Tables[0], empty)
		check(t, "P15.3: empty, the last", covered(n, []int{0}, 4, 10), "0:00[0 2 3] live 3 1:1")
		check(t, "P15.3: empty, and no doors", covered(n, nil, 4, 10), "live 0 0:3 1:1 2:3 3:3")
		check(t, "P15.2: empty", meets(n, 0, 1, 4, 10), "none")
	}
}

// labText: the network L of the examples of the whole.
const labText = `
network "lab"
header dst:4 tag:2
routing dst
box A
  in a
  out c d
  guard a deny dst = 15
  guard a permit any
  rule 10 match tag = 3 set tag = 0 to d
  rule 5 match dst < 4 to c, d
box B
  in a
  out b e
  rule 7 match tag = 1 set tag = 2 to e
  own 8/1 to b
link A.c -> B.a
link B.e -> A.a
slice red A.a where tag = 1
slice blue B.b where any
`

// numbered: the numbers of a network's text.
func numbered(t *testing.T, text string) api.Net {
	t.Helper()
	c, errno, line := conf.Parse(text)
	if errno != api.OK {
		t.Fatalf("Parse: %d in line %d", errno, line)
	}
	n, errno := lower.Lower(c)
	if errno != api.OK {
		t.Fatalf("Lower: %d", errno)
	}
	return n
}

// The entries are 0 A rule 10, 1 A rule 5, 2 A way 8/1, 3 B rule 7, 4 B own 8/1.
func TestExampleOfTheWhole(t *testing.T) {
	n := numbered(t, labText)
	doors, errno := cover.Doors(n)
	check(t, "9 of the whole", fmt.Sprint(doors, errno), "[] 0")
	check(t, "9 of the whole", covered(n, doors, 2, 1024), "live 0 0:3 1:3 2:3 3:3 4:3")
	// Without the link back A.a is a door. What is sent on by rule 5 meets nothing at B with most tags.
	n = numbered(t, strings.Replace(labText, "link B.e -> A.a\n", "", 1))
	check(t, "P15.1", doorsOf(n), "[0]")
	// The candidates are 000011, 000000, 100000 of the meetings at A, and 000001, 100001, 100000 of those at B.
	check(t, "P15.3", covered(n, []int{0}, 2, 1024), "0:100000[2 4] 0:000001[1 3] 0:000011[0] live 5")
	check(t, "P15.3", covered(n, []int{0}, 1, 1024), "0:000011[0] 0:000000[1] 0:100000[2] live 3 3:3 4:3")
	check(t, "P15.2", meets(n, 0, 3, 2, 1024), "00xx01+1xxx01-111101")
}
