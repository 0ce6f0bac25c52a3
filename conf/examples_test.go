package conf_test

import (
	"strings"
	"testing"

	"reach/api"
	"reach/conf"
)

// The examples of chapter 6.

const exampleText = `network "lab"   # a comment
header dst:32 proto:8
routing dst slim
box R1
in a b
out c
guard a permit dst = 10.0.0.0/8 & ! proto = 6
rule 0x1e from a match any set proto = 17 , dst = 167772160 to c
rule 20 match proto = 1 drop
own 10.2.0.0/16 to c
box R2
in a
link R1.c -> R2.a cost 5
slice red R1.a where any
`

const examplePrint = `network "lab"
header dst:32 proto:8
routing dst slim
box R1
  in a b
  out c
  guard a permit dst = 10.0.0.0/8 & !proto = 6
  rule 30 from a match any set proto = 17, dst = 10.0.0.0 to c
  rule 20 match proto = 1 drop
  own 10.2.0.0/16 to c
box R2
  in a
link R1.c -> R2.a cost 5
slice red R1.a where any
`

func exampleNetwork() api.Config {
	any := api.Node{Kind: api.NodeAny}
	not, and := api.Node{Kind: api.NodeNot}, api.Node{Kind: api.NodeAnd}
	dst := api.Node{Kind: api.NodeTest, Test: api.Test{Field: "dst", Op: api.OpIs, Form: api.FormPrefix, Lo: 167772160, Len: 8}}
	proto := func(v int) api.Node {
		return api.Node{Kind: api.NodeTest, Test: api.Test{Field: "proto", Op: api.OpIs, Form: api.FormNumber, Lo: v}}
	}
	return api.Config{
		Title: "lab", Fields: []api.Field{{Name: "dst", Bits: 32}, {Name: "proto", Bits: 8}}, Routing: "dst", Slim: true,
		Boxes: []api.Box{
			{
				Name: "R1", Ins: []string{"a", "b"}, Outs: []string{"c"},
				Guards: []api.Line{{Port: "a", Permit: true, Match: []api.Node{dst, proto(6), not, and}}},
				Rules: []api.Rule{
					{Priority: 30, From: []string{"a"}, Match: []api.Node{any}, Sets: []api.Set{{Field: "proto", Value: 17}, {Field: "dst", Value: 167772160}}, To: []string{"c"}},
					{Priority: 20, Match: []api.Node{proto(1)}},
				},
				Owns: []api.Prefix{{Value: 167903232, Len: 16, To: "c"}},
			},
			{Name: "R2", Ins: []string{"a"}},
		},
		Links:  []api.Link{{From: "R1.c", To: "R2.a", Cost: 5}},
		Slices: []api.Slice{{Name: "red", Ports: []string{"R1.a"}, Where: []api.Node{any}}},
	}
}

func TestExampleOfTheWhole(t *testing.T) {
	for _, text := range []string{exampleText, examplePrint} {
		if c, errno, line := conf.Parse(text); !equal(c, exampleNetwork()) || errno != api.OK || line != 0 {
			t.Errorf("P6.1: %+v, %d, %d", c, errno, line)
		}
	}
	if text, errno := conf.Print(exampleNetwork()); text != examplePrint || errno != api.OK {
		t.Errorf("P6.2: %q, %d", text, errno)
	}
}

func TestExamplesOfParse(t *testing.T) {
	for _, c := range []struct {
		text  string
		errno api.Errno
		line  int
	}{
		{"in a", api.ErrOrder, 1}, {"box R1\nlink R1.c -> R2.a\nin a", api.ErrOrder, 3}, {"box R1\n\nrouting dst", api.ErrOrder, 3},
		{"box R1\nports a", api.ErrKeyword, 2}, {"R1.a in", api.ErrKeyword, 1}, {"box in", api.ErrSyntax, 1}, {"box R1 R2", api.ErrSyntax, 1},
		{"foo\nbox R1\n $", api.ErrByte, 3},
	} {
		if d, errno, line := conf.Parse(c.text); !equal(d, api.Config{}) || errno != c.errno || line != c.line {
			t.Errorf("P6.1: Parse(%q) = %+v, %d, %d; want %d, %d", c.text, d, errno, line, c.errno, c.line)
		}
	}
	if c, errno, line := conf.Parse("box R1\n in a\n in b"); !equal(c, api.Config{Boxes: []api.Box{{Name: "R1", Ins: []string{"a", "b"}}}}) || errno != api.OK || line != 0 {
		t.Errorf("P6.1: %+v, %d, %d", c, errno, line)
	}
}

func TestExamplesOfPrint(t *testing.T) {
	for _, text := range []string{"link R1.c -> R2.a", "link R1.c -> R2.a cost 1"} {
		c, errno, _ := conf.Parse(text)
		if !equal(c, api.Config{Links: []api.Link{{From: "R1.c", To: "R2.a", Cost: 1}}}) || errno != api.OK {
			t.Errorf("P6.1: Parse(%q) = %+v, %d", text, c, errno)
		}
		if print, errno := conf.Print(c); print != "link R1.c -> R2.a\n" || errno != api.OK {
			t.Errorf("P6.2: %q, %d", print, errno)
		}
	}
	for _, c := range []struct {
		c     api.Config
		text  string
		errno api.Errno
	}{
		{api.Config{Title: "é"}, "network \"é\"\n", api.OK}, {api.Config{Slim: true}, "", api.ErrPrint}, {api.Config{Boxes: []api.Box{{Name: "in"}}}, "", api.ErrPrint}, {api.Config{}, "", api.OK},
	} {
		if text, errno := conf.Print(c.c); text != c.text || errno != c.errno {
			t.Errorf("P6.2: Print(%+v) = %q, %d; want %q, %d", c.c, text, errno, c.text, c.errno)
		}
	}
}

func TestExamplesOfEdit(t *testing.T) {
	c := exampleNetwork()
	want := exampleNetwork()
	want.Boxes[1].Rules = []api.Rule{{Priority: 5, Match: []api.Node{{Kind: api.NodeNone}}}}
	if d, errno := conf.Edit(c, "at R2 rule 5 match none drop"); !equal(d, want) || errno != api.OK {
		t.Errorf("P6.5: %+v, %d", d, errno)
	}
	for _, x := range []struct {
		lines string // with ; between
		errno api.Errno
	}{
		{"at R1 rule 20 match any drop;at R1 in x x;at R1 in c", api.ErrThere}, {"at R3 in a", api.ErrGone}, {"rule 5 match any drop;at R1 link R1.c -> R2.a;no header", api.ErrOrder},
		{"at R1 color red;", api.ErrKeyword}, {"no at R1 rule;box R3\nbox R4", api.ErrSyntax},
	} {
		for line := range strings.SplitSeq(x.lines, ";") {
			if d, errno := conf.Edit(c, line); !equal(d, api.Config{}) || errno != x.errno {
				t.Errorf("P6.5: Edit by %q: %+v, %d; want %d", line, d, errno, x.errno)
			}
		}
	}
	want = exampleNetwork()
	want.Boxes[0].Guards = nil
	d, errno := conf.Edit(c, "no at R1 guard a")
	if !equal(d, want) || errno != api.OK {
		t.Errorf("P6.5: %+v, %d", d, errno)
	}
	if d, errno := conf.Edit(d, "no at R1 guard a"); !equal(d, api.Config{}) || errno != api.ErrGone {
		t.Errorf("P6.5: once more: %+v, %d", d, errno)
	}
	want = exampleNetwork()
	want.Boxes = want.Boxes[1:]
	if d, errno := conf.Edit(c, "no box R1"); !equal(d, want) || errno != api.OK {
		t.Errorf("P6.5: %+v, %d", d, errno)
	}
}

func TestExamplesOfSame(t *testing.T) {
	rules, boxes := exampleNetwork(), exampleNetwork()
	rules.Boxes[0].Rules[0], rules.Boxes[0].Rules[1] = rules.Boxes[0].Rules[1], rules.Boxes[0].Rules[0]
	boxes.Boxes[0], boxes.Boxes[1] = boxes.Boxes[1], boxes.Boxes[0]
	if !conf.Same(exampleNetwork(), rules) || conf.Same(exampleNetwork(), boxes) {
		t.Error("P6.4: the order of two rules, of two boxes")
	}
}
