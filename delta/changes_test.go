package delta_test

// P16.3: lines by which conf.Edit makes the one network of the other.

import (
	"fmt"
	"reflect"
	"slices"
	"strings"
	"testing"

	"reach/api"
	"reach/conf"
	"reach/delta"
	"reach/model"
)

// plainOf: a value in which lists that are empty are nil.
func plainOf(v reflect.Value) reflect.Value {
	out := reflect.New(v.Type()).Elem()
	switch v.Kind() {
	case reflect.Struct:
		for n := range v.NumField() {
			out.Field(n).Set(plainOf(v.Field(n)))
		}
	case reflect.Slice:
		for n := range v.Len() {
			out.Set(reflect.Append(out, plainOf(v.Index(n))))
		}
	default:
		out.Set(v)
	}
	return out
}

// equal: in every part and order, nil lists and empty ones alike.
func equal[T any](a, b T) bool {
	return reflect.DeepEqual(plainOf(reflect.ValueOf(a)).Interface(), plainOf(reflect.ValueOf(b)).Interface())
}

// haveSameBoxes: by name, in-ports, out-ports and guards.
func haveSameBoxes(a, b api.Config) bool {
	return slices.EqualFunc(a.Boxes, b.Boxes, func(x, y api.Box) bool {
		x.Rules, x.Owns, x.Routes, y.Rules, y.Owns, y.Routes = nil, nil, nil, nil, nil, nil
		return equal(x, y)
	})
}

// unlike: how many elements stand in one list and not in the other.
func unlike[T any](a, b []T) int {
	count := 0
	for _, pair := range [][2][]T{{a, b}, {b, a}} {
		for _, e := range pair[0] {
			if !slices.ContainsFunc(pair[1], func(o T) bool { return equal(e, o) }) {
				count++
			}
		}
	}
	return count
}

// ordered: rules with From in one order.
func ordered(rules []api.Rule) []api.Rule {
	rules = slices.Clone(rules)
	for at := range rules {
		rules[at].From = slices.Sorted(slices.Values(rules[at].From))
	}
	return rules
}

// mostLines: how many lines may be between networks of the same boxes.
func mostLines(a, b api.Config) int {
	count := unlike(a.Links, b.Links) + unlike(a.Slices, b.Slices)
	for at := range a.Boxes {
		x, y := a.Boxes[at], b.Boxes[at]
		count += unlike(ordered(x.Rules), ordered(y.Rules)) + unlike(x.Owns, y.Owns) + unlike(x.Routes, y.Routes)
	}
	return count
}

// checkChanges: the lines do what they should, and are no more than they may be.
func checkChanges(t *testing.T, a, b api.Config) []string {
	t.Helper()
	lines, errno := delta.Changes(a, b)
	if errno != api.OK {
		t.Fatalf("P16.3: %d of %+v and %+v", errno, a, b)
	}
	if made := edited(t, a, lines...); !conf.Same(made, b) {
		t.Fatalf("P16.3: %q make of\n%+v\nnot\n%+v\nbut\n%+v", lines, a, b, made)
	}
	if conf.Same(a, b) && len(lines) > 0 {
		t.Fatalf("P16.3: %q, though %+v and %+v are the same", lines, a, b)
	}
	if haveSameBoxes(a, b) && len(lines) > mostLines(a, b) {
		t.Fatalf("P16.3: %q are more than %d lines: %+v and %+v", lines, mostLines(a, b), a, b)
	}
	return lines
}

func TestChangesOfMixedNetworks(t *testing.T) {
	s := source(61)
	var same, alike, lines int
	for range 1500 {
		a, b := s.configs()
		for _, pair := range [][2]api.Config{{a, b}, {b, a}} {
			list := checkChanges(t, pair[0], pair[1])
			lines += len(list)
			switch {
			case conf.Same(a, b):
				same++
			case haveSameBoxes(a, b):
				alike++
			}
		}
	}
	if same < 500 || alike < 300 || lines < 8000 {
		t.Errorf("the trial shows less than it should: %d, %d, %d", same, alike, lines)
	}
}

// Networks that are far from one another by many small changes; each of them from the first on.
func TestChangesAlongAWay(t *testing.T) {
	s := source(62)
	for range 12 {
		first := s.network(s.head())
		last := first
		for range 40 {
			last = s.varied(last)
			checkChanges(t, first, last)
			checkChanges(t, last, first)
		}
	}
}

// what: two networks of one head, as lines behind it.
type what struct {
	a, b  string
	lines []string // from a to b
}

func TestChangesOfEachKind(t *testing.T) {
	const headText = "header f:4 g:32\nrouting f\nbox A\nin i j\nout o p\n"
	for _, w := range []what{
		{"", "rule 5 match any drop", []string{"at A rule 5 match any drop"}},
		{"rule 5 match any drop", "rule 5 match none drop", []string{"no at A rule 5", "at A rule 5 match none drop"}},
		{"rule 5 match any to o, p", "rule 5 match any to p, o", []string{"no at A rule 5", "at A rule 5 match any to p, o"}},
		{"rule 5 match any set f = 1, g = 1.0.0.0 drop", "rule 5 match any set g = 1.0.0.0, f = 1 drop", []string{"no at A rule 5", "at A rule 5 match any set g = 1.0.0.0, f = 1 drop"}},
		{"rule 5 from i j match any drop", "rule 5 from j i match any drop", nil},
		{"rule 5 from i match any drop", "rule 5 from j i match any drop", []string{"no at A rule 5", "at A rule 5 from i j match any drop"}},
		{"rule 65535 match any drop\nrule 0 match any drop", "rule 0 match any drop\nrule 7 match any drop", []string{"no at A rule 65535", "at A rule 7 match any drop"}},
		{"own 8/1 to o", "route 8/1 to o", []string{"no at A own 0.0.0.8/1", "at A route 0.0.0.8/1 to o"}},
		{"own 8/1 to o\nroute 8/1 to o", "route 8/1 to p\nown 8/2 to o\nown 0/0 to p", []string{"no at A route 0.0.0.8/1", "no at A own 0.0.0.8/1", "at A own 0.0.0.8/2 to o", "at A own 0.0.0.0/0 to p", "at A route 0.0.0.8/1 to p"}},
		{"link A.o -> A.i", "link A.o -> A.i cost 1", nil},
		{"link A.o -> A.i", "link A.o -> A.i cost 2", []string{"no link A.o", "link A.o -> A.i cost 2"}},
		{"link A.o -> A.i\nlink A.p -> A.i", "link A.p -> A.i\nlink A.o -> A.j", []string{"no link A.o", "link A.o -> A.j"}},
		{"slice s A.i A.j where any\nslice t where any", "slice t where any\nslice s A.j A.i where any", []string{"no slice s", "slice s A.j A.i where any"}},
		{"slice s where f = 1", "slice s where f = 1/4", []string{"no slice s", "slice s where f = 0.0.0.1/4"}},
		{"guard i permit any", "", []string{"no at A guard i"}},
		{"guard i permit any\nguard j permit any", "guard i permit any\nguard o deny any\nguard j permit any", []string{"no at A guard j", "at A guard o deny any", "at A guard j permit any"}},
		{"guard i permit any\nguard j permit any\nguard i deny any", "guard i permit any\nguard i deny any", []string{"no at A guard j"}},
		{"guard i permit any", "guard i permit any\nguard i permit any", []string{"at A guard i permit any"}},
		{"guard j permit any\nguard i permit any\nguard j permit any", "guard j permit any\nguard i permit any", []string{"no at A guard i", "no at A guard j", "at A guard j permit any", "at A guard i permit any"}},
		{"in k l", "in l\nout k", []string{"no at A in k", "at A out k"}},
		{"in k l", "in l k", []string{"no at A in k", "at A in k"}},
		{"box B\nin i\nbox C", "box C\nbox B\nin i", []string{"no box B", "box B", "at B in i"}},
		{"box B\nin i\nrule 5 match any drop\nbox C", "box D\nbox C", []string{"no box C", "no box B", "box D", "box C"}},
		{"box B\nin i\nbox C\nlink A.o -> B.i\nslice s B.i where any", "box B\nin j\nlink A.o -> B.j\nslice s B.j where any", []string{"no slice s", "no link A.o", "no at B in i", "no box C", "at B in j", "link A.o -> B.j", "slice s B.j where any"}},
	} {
		a, b := read(t, headText+w.a), read(t, headText+w.b)
		lines := checkChanges(t, a, b)
		check(t, fmt.Sprintf("P16.3: %q, %q", w.a, w.b), fmt.Sprintf("%q", lines), fmt.Sprintf("%q", w.lines))
		checkChanges(t, b, a)
	}
}

// long: a name of as many bytes as one may have.
func long(like string, n int) string {
	name := fmt.Sprint(like, n, "_")
	return name + strings.Repeat("n", api.MaxName-len(name))
}

// greatest: a well-formed network of as much as there may be of everything, with the longest lines that may be; or only its head.
func (s *source) greatest() (head, c api.Config) {
	for n := range 12 {
		c.Fields = append(c.Fields, api.Field{Name: long("f", n), Bits: []int{32, 13}[min(1, n/5)]})
	}
	c.Routing = c.Fields[0].Name
	head = c
	// One box with nearly all ports, and 15 with next to none.
	b := api.Box{Name: long("B", 0)}
	for n := range api.MaxPorts - 5 {
		b.Ins = append(b.Ins, long("i", n))
	}
	for n := range 5 {
		b.Outs = append(b.Outs, long("o", n))
	}
	deep := func() []api.Node { return s.longMatch(c.Fields) }
	for n := range api.MaxLines {
		b.Guards = append(b.Guards, api.Line{Port: b.Ins[n%len(b.Ins)], Match: deep()})
	}
	for n := range api.MaxRules {
		r := api.Rule{Priority: api.MaxPriority - n, From: b.Ins, Match: deep(), To: b.Outs[:4]}
		for _, f := range c.Fields {
			r.Sets = append(r.Sets, api.Set{Field: f.Name, Value: 1<<f.Bits - 1})
		}
		b.Rules = append(b.Rules, r)
		b.Owns = append(b.Owns, api.Prefix{Value: (1<<32 - 1) - n, Len: 32, To: b.Outs[n%5]})
	}
	b.Owns, b.Routes = b.Owns[:40], b.Owns[40:]
	c.Boxes = append(c.Boxes, b)
	for n := range api.MaxBoxes - 1 {
		c.Boxes = append(c.Boxes, api.Box{Name: long("B", n+1)})
	}
	ins, outs := fullNames(c)
	for n, from := range outs {
		c.Links = append(c.Links, api.Link{From: from, To: ins[n], Cost: api.MaxCost})
	}
	for n := range api.MaxSlices {
		c.Slices = append(c.Slices, api.Slice{Name: long("s", n), Ports: append(ins, outs...), Where: deep()})
	}
	return head, c
}

// longMatch: 32 tests, each with a long text; no more nodes may be.
func (s *source) longMatch(fields []api.Field) []api.Node {
	test := func() api.Node {
		f := fields[s.below(5)]
		if s.below(2) == 0 {
			return api.Node{Kind: api.NodeTest, Test: api.Test{Field: f.Name, Op: api.OpNot, Form: api.FormPattern, Pattern: s.cube(f.Bits, "01x")}}
		}
		return api.Node{Kind: api.NodeTest, Test: api.Test{Field: f.Name, Op: api.OpNot, Form: api.FormRange, Lo: 1<<31 + s.below(100), Hi: 1<<32 - 1}}
	}
	list := []api.Node{test()}
	for len(list) < api.MaxNodes-1 {
		list = append(list, test(), api.Node{Kind: api.NodeAnd + s.below(2)})
	}
	return append(list, api.Node{Kind: api.NodeNot})
}

// A network whose text is longer than a text may be is made line by line all the same.
func TestChangesOfTheGreatestNetwork(t *testing.T) {
	s := source(63)
	head, c := s.greatest()
	if errno, told := model.Check(c); errno != api.OK {
		t.Fatalf("%d, %s", errno, told)
	}
	if _, errno := conf.Print(c); errno != api.ErrLong {
		t.Fatalf("Print: %d", errno)
	}
	_, other := s.greatest()
	slices.Reverse(other.Boxes)
	longest := 0
	for _, pair := range [][2]api.Config{{head, c}, {c, head}, {c, c}, {c, other}, {other, c}} {
		for _, line := range checkChanges(t, pair[0], pair[1]) {
			longest = max(longest, len(line))
		}
	}
	if longest < 4000 || longest > api.MaxText {
		t.Errorf("the longest line has %d bytes", longest)
	}
}

// W5: nil lists and empty ones are the same.
func TestEmptyLists(t *testing.T) {
	a := read(t, "header f:4\nbox A\nin i\nout o\nrule 5 match any drop\nslice s where any\n")
	b := cloned(a)
	b.Links, b.Boxes[0].Guards, b.Boxes[0].Owns = []api.Link{}, []api.Line{}, []api.Prefix{}
	b.Boxes[0].Rules[0].From, b.Boxes[0].Rules[0].Sets, b.Slices[0].Ports = []string{}, []api.Set{}, []string{}
	check(t, "P16.3", changes(a, b), "")
	check(t, "P16.3", changes(b, a), "")
}

// The numbers of what the lines make are those of the network that was asked for.
func TestChangesInNumbers(t *testing.T) {
	a := read(t, labText)
	b := edited(t, a, "no at A rule 5", "at A rule 6 from a match dst < 8 to c", "at B route 0/1 to b", "no link B.e", "slice green where any")
	lines := checkChanges(t, a, b)
	made := numbered(t, edited(t, a, lines...))
	check(t, "P0.12", fmt.Sprint(made), fmt.Sprint(numbered(t, b)))
	for to := range 6 {
		check(t, "P0.12", compare(made, numbered(t, b), 0, to, "xxxxxx", 8, most), "none from 0; none from 0")
	}
}
