package model_test

import (
	"fmt"
	"slices"
	"strings"
	"testing"

	"reach/api"
	"reach/expr"
)

// plain: a network with one of each thing; the fields are of 8, 4 and 32 bits.
func plain(t *testing.T) api.Config {
	t.Helper()
	return parsed(t, "network \"plain\"\nheader dst:8 tag:4 src:32\nrouting dst\nbox R1\nin a b\nout c d\nguard a permit any\nrule 5 from a match any set tag = 1 to c\nown 64/2 to c\nroute 0/0 to d\nbox R2\nin a\nout b\nlink R1.c -> R2.a\nslice red R1.a where any\n")
}

func match(text string) []api.Node {
	nodes, _, _ := expr.Parse(text)
	return nodes
}

// A damage makes one offence; the damages below stand in the order in which Check is to find them, and any two may be done to one network.
type damage struct {
	of    string
	do    func(c *api.Config)
	errno api.Errno
	told  string
}

func many[T any](n int, one func(n int) T) []T {
	var list []T
	for k := range n {
		list = append(list, one(k))
	}
	return list
}

func addBox(b api.Box) func(c *api.Config) {
	return func(c *api.Config) { c.Boxes = append(c.Boxes, b) }
}

func addLink(l api.Link) func(c *api.Config) {
	return func(c *api.Config) { c.Links = append(c.Links, l) }
}

func addSlice(s api.Slice) func(c *api.Config) {
	return func(c *api.Config) { c.Slices = append(c.Slices, s) }
}

// numbered: a name of that number.
func numbered(like string) func(int) string {
	return func(n int) string { return fmt.Sprintf("%s%d", like, n) }
}

func headDamages() []damage {
	addField := func(f api.Field) func(*api.Config) {
		return func(c *api.Config) { c.Fields = append(c.Fields, f) }
	}
	return []damage{
		{"a long title", func(c *api.Config) { c.Title = strings.Repeat("t", 257) }, api.ErrCount, "network"},
		{"too many fields", func(c *api.Config) {
			c.Fields = append(c.Fields, many(10, func(n int) api.Field { return api.Field{Name: fmt.Sprintf("f%d", n), Bits: 1} })...)
		}, api.ErrLayout, ""},
		{"a field without bits", addField(api.Field{Name: "flat"}), api.ErrLayout, "flat"},
		{"a field named by a reserved word", addField(api.Field{Name: "to", Bits: 1}), api.ErrLayout, "to"},
		{"routing on what is no field", func(c *api.Config) { c.Routing = "zz" }, api.ErrUnknown, "zz"},
	}
}

func countDamages() []damage {
	return []damage{
		{"17 boxes", func(c *api.Config) {
			for len(c.Boxes) < 17 {
				c.Boxes = append(c.Boxes, api.Box{Name: fmt.Sprintf("M%d", len(c.Boxes))})
			}
		}, api.ErrCount, "boxes"},
		{"49 ports", addBox(api.Box{Name: "P", Ins: many(21, numbered("i")), Outs: many(22, numbered("o"))}), api.ErrCount, "ports"},
		{"65 guard lines", func(c *api.Config) {
			c.Boxes[1].Guards = many(64, func(int) api.Line { return api.Line{Port: "a", Match: match("any")} })
		}, api.ErrCount, "guards"},
		{"65 rules", func(c *api.Config) {
			c.Boxes[1].Rules = many(64, func(n int) api.Rule { return api.Rule{Priority: n, Match: match("any")} })
		}, api.ErrCount, "rules"},
		{"65 routes", func(c *api.Config) {
			c.Boxes[1].Owns = many(32, func(n int) api.Prefix { return api.Prefix{Value: n, Len: 8, To: "b"} })
			c.Boxes[1].Routes = many(31, func(n int) api.Prefix { return api.Prefix{Value: n, Len: 8, To: "b"} })
		}, api.ErrCount, "routes"},
		{"49 links", func(c *api.Config) {
			c.Links = many(49, func(n int) api.Link { return api.Link{From: "R1.d", To: "R2.a", Cost: 1} })
		}, api.ErrCount, "links"},
		{"9 slices", func(c *api.Config) {
			c.Slices = many(9, func(n int) api.Slice { return api.Slice{Name: fmt.Sprintf("s%d", n), Where: match("any")} })
		}, api.ErrCount, "slices"},
	}
}

func nameDamages() []damage {
	return []damage{
		{"a box named by a reserved word", addBox(api.Box{Name: "slice", Ins: []string{"a"}}), api.ErrName, "slice"},
		{"a second box of one name", addBox(api.Box{Name: "R1"}), api.ErrDouble, "R1"},
		{"an in-port whose name is none", addBox(api.Box{Name: "N1", Ins: []string{"a", "1b"}}), api.ErrName, "N1.1b"},
		{"two in-ports of one name", addBox(api.Box{Name: "N2", Ins: []string{"a", "b", "a"}}), api.ErrDouble, "N2.a"},
		{"an out-port whose name is none", addBox(api.Box{Name: "N3", Ins: []string{"a"}, Outs: []string{"from"}}), api.ErrName, "N3.from"},
		{"two out-ports of one name", addBox(api.Box{Name: "N4", Outs: []string{"a", "a"}}), api.ErrDouble, "N4.a"},
		{"an in-port and an out-port of one name", addBox(api.Box{Name: "N5", Ins: []string{"x"}, Outs: []string{"y", "x"}}), api.ErrDouble, "N5.x"},
	}
}

// body: a box of that name with the ports a, b (in) and c, d (out).
func body(name string, fill func(b *api.Box)) func(c *api.Config) {
	return func(c *api.Config) {
		b := api.Box{Name: name, Ins: []string{"a", "b"}, Outs: []string{"c", "d"}}
		fill(&b)
		c.Boxes = append(c.Boxes, b)
	}
}

func guard(name string, g api.Line) func(c *api.Config) {
	return body(name, func(b *api.Box) { b.Guards = []api.Line{{Port: "d", Match: match("none")}, g} })
}

func rule(name string, r api.Rule) func(c *api.Config) {
	return body(name, func(b *api.Box) { b.Rules = []api.Rule{{Priority: 3, Match: match("any")}, r} })
}

func bodyDamages() []damage {
	any := match("any")
	return []damage{
		{"a guard of no port", guard("D01", api.Line{Port: "z", Match: any}), api.ErrUnknown, "D01 guard z"},
		{"a guard of another box's port", guard("D02", api.Line{Port: "R1.a", Match: any}), api.ErrUnknown, "D02 guard R1.a"},
		{"a guard's match of no field", guard("D03", api.Line{Port: "a", Match: match("zz = 1")}), api.ErrMatch, "D03 guard a"},
		{"a guard without a match", guard("D04", api.Line{Port: "c"}), api.ErrMatch, "D04 guard c"},
		{"a priority below 0", rule("D05", api.Rule{Priority: -1, Match: any}), api.ErrPriority, "D05 rule -1"},
		{"a priority too high", rule("D06", api.Rule{Priority: 65536, Match: any}), api.ErrPriority, "D06 rule 65536"},
		{"a priority twice", rule("D07", api.Rule{Priority: 3, Match: any}), api.ErrPriority, "D07 rule 3"},
		{"from no port", rule("D08", api.Rule{Priority: 4, From: []string{"a", "z"}, Match: any}), api.ErrUnknown, "D08 rule 4"},
		{"from an out-port", rule("D09", api.Rule{Priority: 4, From: []string{"a", "c"}, Match: any}), api.ErrSide, "D09 rule 4"},
		{"from one port twice", rule("D10", api.Rule{Priority: 4, From: []string{"a", "b", "a"}, Match: any}), api.ErrDouble, "D10 rule 4"},
		{"a match whose value does not fit", rule("D11", api.Rule{Priority: 4, Match: match("dst = 256")}), api.ErrMatch, "D11 rule 4"},
		{"a field set that there is not", rule("D12", api.Rule{Priority: 4, Match: any, Sets: []api.Set{{Field: "zz"}}}), api.ErrSets, "D12 rule 4"},
		{"a field set twice", rule("D13", api.Rule{Priority: 4, Match: any, Sets: []api.Set{{Field: "dst"}, {Field: "dst"}}}), api.ErrSets, "D13 rule 4"},
		{"a value that does not fit", rule("D14", api.Rule{Priority: 4, Match: any, Sets: []api.Set{{Field: "tag", Value: 16}}}), api.ErrSets, "D14 rule 4"},
		{"13 sets", rule("D15", api.Rule{Priority: 4, Match: any, Sets: make([]api.Set, 13)}), api.ErrSets, "D15 rule 4"},
		{"to five ports", rule("D16", api.Rule{Priority: 4, Match: any, To: []string{"c", "d", "z", "z", "z"}}), api.ErrCount, "D16 rule 4"},
		{"to no port", rule("D17", api.Rule{Priority: 4, Match: any, To: []string{"c", "z"}}), api.ErrUnknown, "D17 rule 4"},
		{"to an in-port", rule("D18", api.Rule{Priority: 4, Match: any, To: []string{"c", "a"}}), api.ErrSide, "D18 rule 4"},
		{"to one port twice", rule("D19", api.Rule{Priority: 4, Match: any, To: []string{"c", "c"}}), api.ErrDouble, "D19 rule 4"},
	}
}

func routeDamages() []damage {
	var list []damage
	for n, x := range []struct {
		of    string
		value int
		len   int
		to    string
		errno api.Errno
	}{
		{"a length below 0", 0, -1, "c", api.ErrPrefix},
		{"a length above the field's bits", 0, 9, "c", api.ErrPrefix},
		{"a value below 0", -128, 1, "c", api.ErrPrefix},
		{"a value above the field's", 256, 0, "c", api.ErrPrefix},
		{"a value that goes on behind the length", 65, 7, "c", api.ErrPrefix},
		{"a prefix twice", 16, 4, "d", api.ErrPrefix},
		{"a prefix to no port", 1, 8, "z", api.ErrUnknown},
		{"a prefix to an in-port", 1, 8, "a", api.ErrSide},
	} {
		prefixes := []api.Prefix{{Value: 16, Len: 4, To: "c"}, {Value: x.value, Len: x.len, To: x.to}}
		own, route := fmt.Sprintf("O%d", n), fmt.Sprintf("S%d", n)
		list = append(list, damage{"own: " + x.of, body(own, func(b *api.Box) { b.Owns = prefixes }), x.errno, own + " own"},
			damage{"route: " + x.of, body(route, func(b *api.Box) { b.Routes = prefixes }), x.errno, route + " route"})
	}
	return list
}

func linkDamages() []damage {
	return []damage{
		{"a link from no port", addLink(api.Link{From: "R1.z", To: "R2.a", Cost: 1}), api.ErrUnknown, "R1.z"},
		{"a link from a name that is not full", addLink(api.Link{From: "d", To: "R2.a", Cost: 1}), api.ErrUnknown, "d"},
		{"a link from an in-port", addLink(api.Link{From: "R1.a", To: "R2.a", Cost: 1}), api.ErrSide, "R1.a"},
		{"a link to no port", addLink(api.Link{From: "R1.d", To: "R3.a", Cost: 1}), api.ErrUnknown, "R3.a"},
		{"a link to an out-port", addLink(api.Link{From: "R1.d", To: "R2.b", Cost: 1}), api.ErrSide, "R2.b"},
		{"a cost of 0", addLink(api.Link{From: "R1.d", To: "R2.a"}), api.ErrCount, "R1.d"},
		{"a cost below 0", addLink(api.Link{From: "R2.b", To: "R2.a", Cost: -1}), api.ErrCount, "R2.b"},
		{"a cost too high", addLink(api.Link{From: "R1.d", To: "R2.a", Cost: 10000}), api.ErrCount, "R1.d"},
		{"a second link of an out-port", addLink(api.Link{From: "R1.c", To: "R1.a", Cost: 1}), api.ErrLinked, "R1.c"},
	}
}

func sliceDamages() []damage {
	any := match("any")
	return []damage{
		{"a slice named by a reserved word", addSlice(api.Slice{Name: "any", Where: any}), api.ErrName, "any"},
		{"a second slice of one name", addSlice(api.Slice{Name: "red", Where: any}), api.ErrDouble, "red"},
		{"a slice of no port", addSlice(api.Slice{Name: "s1", Ports: []string{"R1.a", "R1.z"}, Where: any}), api.ErrUnknown, "R1.z"},
		{"a slice with a port twice", addSlice(api.Slice{Name: "s2", Ports: []string{"R2.a", "R1.c", "R2.a"}, Where: any}), api.ErrDouble, "R2.a"},
		{"a slice with a wrong match", addSlice(api.Slice{Name: "s3", Ports: []string{"R1.c"}, Where: match("tag > 16")}), api.ErrMatch, "s3"},
		{"a slice without a match", addSlice(api.Slice{Name: "s4"}), api.ErrMatch, "s4"},
	}
}

func damages() []damage {
	return slices.Concat(headDamages(), countDamages(), nameDamages(), bodyDamages(), routeDamages(), linkDamages(), sliceDamages())
}

func TestEachOffenceIsFound(t *testing.T) {
	checkOffence(t, "nothing", plain(t), api.OK, "")
	for _, d := range damages() {
		c := plain(t)
		d.do(&c)
		checkOffence(t, d.of, c, d.errno, d.told)
	}
}

// Of two offences the one is told that comes first in the document's order.
func TestTheFirstOffenceIsTold(t *testing.T) {
	all := damages()
	for n, first := range all {
		for _, second := range all[n+1:] {
			c := plain(t)
			first.do(&c)
			second.do(&c)
			checkOffence(t, first.of+"; then "+second.of, c, first.errno, first.told)
		}
	}
}

// part is one part of a thing that a damage makes an offence of.
type part struct {
	do    func(c *api.Config)
	errno api.Errno
	told  string
}

func headParts() []part {
	return []part{
		{func(c *api.Config) { c.Title = strings.Repeat("t", 257) }, api.ErrCount, "network"},
		{func(c *api.Config) { c.Fields[1].Name = "dst" }, api.ErrLayout, "dst"},
		{func(c *api.Config) { c.Fields[2].Name = "at" }, api.ErrLayout, "at"},
		{func(c *api.Config) { c.Routing = "tagg" }, api.ErrUnknown, "tagg"},
	}
}

func boxParts() []part {
	return []part{
		{func(c *api.Config) { c.Boxes[1].Name = "R1" }, api.ErrDouble, "R1"},
		{func(c *api.Config) { c.Boxes[1].Ins[0] = "in" }, api.ErrName, "R2.in"},
		{func(c *api.Config) { c.Boxes[1].Outs[0] = "-" }, api.ErrName, "R2.-"},
		{func(c *api.Config) { c.Boxes[1].Guards = []api.Line{{Port: "z"}} }, api.ErrUnknown, "R2 guard z"},
		{func(c *api.Config) { c.Boxes[1].Rules = []api.Rule{{Priority: -7}} }, api.ErrPriority, "R2 rule -7"},
		{func(c *api.Config) { c.Boxes[1].Owns = []api.Prefix{{Value: 1}} }, api.ErrPrefix, "R2 own"},
		{func(c *api.Config) { c.Boxes[1].Routes = []api.Prefix{{To: "b", Len: 9}} }, api.ErrPrefix, "R2 route"},
		{func(c *api.Config) { c.Links[0].Cost = 0 }, api.ErrCount, "R1.c"},
		{func(c *api.Config) { c.Slices[0].Name = "x.y" }, api.ErrName, "x.y"},
	}
}

func guardParts() []part {
	return []part{
		{func(c *api.Config) { c.Boxes[0].Guards[0].Port = "R1.a" }, api.ErrUnknown, "R1 guard R1.a"},
		{func(c *api.Config) { c.Boxes[0].Guards[0].Match = match("zz = 1") }, api.ErrMatch, "R1 guard a"},
	}
}

func ruleParts() []part {
	of := func(do func(r *api.Rule)) func(c *api.Config) {
		return func(c *api.Config) { do(&c.Boxes[0].Rules[0]) }
	}
	return []part{
		{of(func(r *api.Rule) { r.Priority = 99999 }), api.ErrPriority, "R1 rule 99999"},
		{of(func(r *api.Rule) { r.From = []string{"a", "d", "z", "a"} }), api.ErrSide, "R1 rule 5"},
		{of(func(r *api.Rule) { r.Match = match("zz = 1") }), api.ErrMatch, "R1 rule 5"},
		{of(func(r *api.Rule) { r.Sets[0].Value = 16 }), api.ErrSets, "R1 rule 5"},
		{of(func(r *api.Rule) { r.To = append(r.To, many(4, numbered("z"))...) }), api.ErrCount, "R1 rule 5"},
		{of(func(r *api.Rule) { r.To = append([]string{"c", "c", "a", "z"}, r.To[1:]...) }), api.ErrDouble, "R1 rule 5"},
	}
}

func prefixParts() []part {
	return []part{
		{func(c *api.Config) { c.Boxes[0].Owns[0].Len = 1 }, api.ErrPrefix, "R1 own"},
		{func(c *api.Config) { c.Boxes[0].Owns[0].To = "a" }, api.ErrSide, "R1 own"},
		{func(c *api.Config) { c.Boxes[0].Routes[0].Value = 1 }, api.ErrPrefix, "R1 route"},
		{func(c *api.Config) { c.Boxes[0].Routes[0].To = "z" }, api.ErrUnknown, "R1 route"},
	}
}

func linkParts() []part {
	of := func(do func(l *api.Link)) func(c *api.Config) {
		return func(c *api.Config) {
			if len(c.Links) == 1 {
				c.Links = append(c.Links, c.Links[0])
			}
			do(&c.Links[1])
		}
	}
	return []part{
		{of(func(l *api.Link) { l.From = "R1.a" }), api.ErrSide, "R1.a"},
		{of(func(l *api.Link) { l.To = "R2" }), api.ErrUnknown, "R2"},
		{of(func(l *api.Link) { l.Cost = 10000 }), api.ErrCount, "R1.c"},
		{of(func(l *api.Link) {}), api.ErrLinked, "R1.c"},
	}
}

func sliceParts() []part {
	of := func(do func(s *api.Slice)) func(c *api.Config) {
		return func(c *api.Config) {
			if len(c.Slices) == 1 {
				c.Slices = append(c.Slices, api.Slice{Name: "blue", Ports: []string{"R1.b"}, Where: match("none")})
			}
			do(&c.Slices[1])
		}
	}
	return []part{
		{of(func(s *api.Slice) { s.Name = "red" }), api.ErrDouble, "red"},
		{of(func(s *api.Slice) { s.Ports = []string{"R1.a", "R1.a", ""} }), api.ErrDouble, "R1.a"},
		{of(func(s *api.Slice) { s.Where = nil }), api.ErrMatch, "blue"},
	}
}

// The parts of one thing are looked at in their order: of any two of them that offend, the earlier one tells.
func TestTheOrderWithinOneThing(t *testing.T) {
	for n, parts := range [][]part{headParts(), boxParts(), guardParts(), ruleParts(), prefixParts(), linkParts(), sliceParts()} {
		for k, first := range parts {
			c := plain(t)
			first.do(&c)
			checkOffence(t, fmt.Sprintf("list %d, the part %d", n, k), c, first.errno, first.told)
			for j, second := range parts[k+1:] {
				c := plain(t)
				second.do(&c)
				first.do(&c)
				checkOffence(t, fmt.Sprintf("list %d, the parts %d and %d", n, k, k+1+j), c, first.errno, first.told)
			}
		}
	}
}

// The lists' elements are looked at one by one: each element wholly ahead of the next.
func TestTheOrderOfElements(t *testing.T) {
	any, bad := match("any"), match("zz = 1")
	for _, x := range []struct {
		of    string
		do    func(c *api.Config)
		errno api.Errno
		told  string
	}{
		{"boxes: a port of the first, the name of the second", func(c *api.Config) { c.Boxes[0].Outs[1], c.Boxes[1].Name = "drop", "R1" }, api.ErrName, "R1.drop"},
		{"boxes: a route of the first, a guard of the second", func(c *api.Config) {
			c.Boxes[0].Routes[0].To, c.Boxes[1].Guards = "a", []api.Line{{Port: "z"}}
		}, api.ErrSide, "R1 route"},
		{"guards: the match of the first, the port of the second", func(c *api.Config) {
			c.Boxes[0].Guards = []api.Line{{Port: "b", Match: bad}, {Port: "z", Match: any}}
		}, api.ErrMatch, "R1 guard b"},
		{"rules: the to of the first, the priority of the second", func(c *api.Config) {
			c.Boxes[0].Rules = []api.Rule{{Priority: 1, Match: any, To: []string{"z"}}, {Priority: 1, Match: any}}
		}, api.ErrUnknown, "R1 rule 1"},
		{"from: twice one, then none", func(c *api.Config) { c.Boxes[0].Rules[0].From = []string{"b", "b", "z"} }, api.ErrDouble, "R1 rule 5"},
		{"to: a side, then none", func(c *api.Config) { c.Boxes[0].Rules[0].To = []string{"a", "z"} }, api.ErrSide, "R1 rule 5"},
		{"owns: the to of the first, the prefix of the second", func(c *api.Config) { c.Boxes[0].Owns = []api.Prefix{{To: "z"}, {To: "z"}} }, api.ErrUnknown, "R1 own"},
		{"links: the last part of the first, the first of the second", func(c *api.Config) {
			c.Links = append(c.Links, api.Link{From: "R1.c", To: "R2.a", Cost: 1}, api.Link{From: "z", To: "R2.a", Cost: 1})
		}, api.ErrLinked, "R1.c"},
		{"slices: the last part of the first, the first of the second", func(c *api.Config) {
			c.Slices[0].Where = bad
			c.Slices = append(c.Slices, api.Slice{Name: "a b"})
		}, api.ErrMatch, "red"},
		{"fields: a reserved word, then no layout", func(c *api.Config) { c.Fields[0].Name, c.Fields[1].Bits = "out", 0 }, api.ErrLayout, "tag"},
	} {
		c := plain(t)
		x.do(&c)
		checkOffence(t, x.of, c, x.errno, x.told)
	}
}
