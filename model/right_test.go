package model_test

// What is no offence: the edges of each bound, and what the document lets in by name.

import (
	"fmt"
	"slices"
	"strings"
	"testing"

	"reach/api"
	"reach/expr"
	"reach/model"
)

// atTheLimits: a network with as much of everything as may be.
func atTheLimits() api.Config {
	c := api.Config{Title: strings.Repeat("\xff", 256), Routing: "f0", Slim: true}
	c.Fields = many(12, func(n int) api.Field { return api.Field{Name: fmt.Sprintf("f%d", n), Bits: 20} })
	c.Fields[0].Bits, c.Fields[11].Bits = 32, 24
	for n := range 16 {
		b := api.Box{Name: fmt.Sprintf("%s%02d", longName[:22], n), Ins: []string{"a"}, Outs: []string{"b", longName[:24]}}
		b.Guards = many(4, func(int) api.Line { return api.Line{Port: "a", Match: match("any")} })
		b.Rules = many(4, func(k int) api.Rule {
			return api.Rule{Priority: 65535 - k, From: b.Ins, Match: match("any"), To: b.Outs}
		})
		b.Owns = many(2, func(k int) api.Prefix { return api.Prefix{Value: 1<<32 - 1 - k, Len: 32, To: "b"} })
		b.Routes = many(2, func(k int) api.Prefix { return api.Prefix{Value: k << 31, Len: k, To: "b"} })
		c.Boxes = append(c.Boxes, b)
	}
	ins, outs := fullNames(c)
	for n, out := range outs {
		c.Links = append(c.Links, api.Link{From: out, To: ins[n%3], Cost: 9999})
	}
	c.Slices = many(8, func(n int) api.Slice {
		return api.Slice{Name: fmt.Sprintf("s%d", n), Ports: append(outs, ins...), Where: match("f0 = 4294967295")}
	})
	return c
}

func TestNetworksAtTheLimits(t *testing.T) {
	checkOffence(t, "as much as may be", atTheLimits(), api.OK, "")
	ports, errno := model.Ports(atTheLimits())
	if errno != api.OK || len(ports) != 48 {
		t.Errorf("P7.3: of 48 ports %d are told: %d", len(ports), errno)
	}
	// Each bound holds for all boxes together, wherever its things stand: one more in the last box is too many.
	for told, do := range map[string]func(b *api.Box){
		"guards": func(b *api.Box) { b.Guards = append(b.Guards, b.Guards[0]) },
		"rules":  func(b *api.Box) { b.Rules = append(b.Rules, api.Rule{Priority: 7, Match: match("any")}) },
		"routes": func(b *api.Box) { b.Routes = append(b.Routes, api.Prefix{Len: 5, To: "b"}) },
		"ports":  func(b *api.Box) { b.Ins = append(b.Ins, "more") },
	} {
		c := atTheLimits()
		do(&c.Boxes[15])
		checkOffence(t, "one more of "+told, c, api.ErrCount, told)
	}
	c := atTheLimits()
	c.Boxes[15].Owns = append(c.Boxes[15].Owns, api.Prefix{Len: 5, To: "b"})
	checkOffence(t, "one more prefix that is owned", c, api.ErrCount, "routes")
	c = atTheLimits()
	c.Boxes[15].Outs = append(c.Boxes[15].Outs, "more")
	checkOffence(t, "one more out-port", c, api.ErrCount, "ports")
}

// As many sets, outs and links as there may be need fields and out-ports for them.
func TestAsManySetsOutsAndLinks(t *testing.T) {
	c := api.Config{Fields: many(12, func(n int) api.Field { return api.Field{Name: fmt.Sprintf("f%d", n), Bits: 1} })}
	sets := many(12, func(n int) api.Set { return api.Set{Field: fmt.Sprintf("f%d", n), Value: 1} })
	outs := many(47, numbered("o"))
	c.Boxes = []api.Box{{Name: "B", Ins: []string{"i"}, Outs: outs, Rules: []api.Rule{{Match: match("any"), Sets: sets, To: outs[:4]}}}}
	c.Links = many(47, func(n int) api.Link { return api.Link{From: "B." + outs[n], To: "B.i", Cost: 1} })
	checkOffence(t, "12 sets, 4 outs, 47 links to one in-port of the same box", c, api.OK, "")
	c.Boxes[0].Rules[0].To = outs[:5]
	checkOffence(t, "5 outs", c, api.ErrCount, "B rule 0")
	c.Boxes[0].Rules[0].To = nil
	c.Links = append(c.Links, c.Links[0])
	checkOffence(t, "48 links of 47 out-ports", c, api.ErrLinked, "B.o0")
	c.Links = append(c.Links, c.Links[0])
	checkOffence(t, "49 links", c, api.ErrCount, "links")
}

func TestWhatIsNoOffence(t *testing.T) {
	for _, text := range []string{
		"header a:1",
		"header a:1\nrouting a slim",
		"header a:32 b:32 c:32 d:32 e:32 f:32 g:32 h:32",
		"header a:1\nbox B",
		"header a:1\nbox B\nin a\nbox C\nin a\nout B C",
		"header B:1\nrouting B\nbox B\nin b\nout B\nslice B B.B where B = 1",
		"header a:1\nslice s where any\nslice t where none",
		"header a:1\nbox B\nin i j\nout o p\nlink B.o -> B.i\nlink B.p -> B.i",
		"header a:4\nrouting a\nbox B\nout o p\nown 8/1 to o\nroute 8/1 to p\nbox C\nout o\nown 8/1 to o",
		"header a:4\nrouting a\nbox B\nout o p\nown 8/1 to o\nown 8/2 to o\nown 0/1 to o\nown 0/0 to p\nown 15/4 to p",
		"header a:4\nbox B\nin i\nout o\nrule 5 match any to o\nrule 4 match any to o\nrule 0 from i match none drop\nrule 65535 match any drop",
		"header a:4\nbox B\nrule 5 match any drop\nbox C\nrule 5 match any drop",
		"header a:4\nbox B\nin i\nout o\nguard o deny any\nguard i permit any\nguard o deny any",
		"header a:32\nrouting a\nbox B\nout o\nown 255.255.255.255/32 to o\nroute 128.0.0.0/1 to o",
		"header a:4 b:4\nbox B\nrule 5 match a = 15 & b != 3..15 & a = %xx01 | !b = 8/1 set b = 15, a = 0 drop",
	} {
		checkOffence(t, text, parsed(t, text), api.OK, "")
	}
}

// Whether a match becomes too many cubes is not asked here, but by Zone.
func TestMatchesOfTooManyCubes(t *testing.T) {
	wide := "a != 1..4094 & b != 1..4094 & c = 1..4094"
	c := parsed(t, "header a:12 b:12 c:12 d:12\nbox B\nin i\nguard i permit "+wide+" & d = 1..4094\nslice narrow where any\nslice wide B.i where "+wide+" & d = 1..4094")
	if _, errno := expr.Space(c.Fields, c.Slices[1].Where); errno != api.ErrBudget {
		t.Fatalf("the match takes not too many cubes: %d", errno)
	}
	checkOffence(t, "a match of too many cubes", c, api.OK, "")
	if zone, errno := model.Zone(c, "wide"); errno != api.ErrBudget || !equal(zone, api.Zone{}) {
		t.Errorf("P7.6: Zone of too many cubes: %v, %d", zone, errno)
	}
	if zone, errno := model.Zone(c, "narrow"); errno != api.OK || zone.Space != strings.Repeat("x", 48) {
		t.Errorf("P7.6: Zone of another slice: %v, %d", zone, errno)
	}
}

// Every text is a name just if the grammar has it as one, and it is not reserved: of boxes, ports and slices; fields may be told by less.
func TestNames(t *testing.T) {
	texts := append(strings.Fields(reservedWords), "", "a", "_", "Z9", "9", "a.b", "a ", " a", "a\n", "#", "a#", "é", "a\xff", "%01", "\"a\"", "7", "->", "Any", "in_", "hops", longName[:24], longName, strings.Repeat("a", 20000))
	for b := range 256 {
		texts = append(texts, string([]byte{byte(b)}), string([]byte{'a', byte(b)}))
	}
	for _, text := range texts {
		field := []api.Field{{Name: "f", Bits: 1}}
		box := api.Config{Fields: field, Boxes: []api.Box{{Name: text}}}
		port := api.Config{Fields: field, Boxes: []api.Box{{Name: "B", Ins: []string{"q"}, Outs: []string{text}}}}
		slice := api.Config{Fields: field, Slices: []api.Slice{{Name: text, Where: match("any")}}}
		if isName(text) {
			checkOffence(t, "a box", box, api.OK, "")
			checkOffence(t, "a slice", slice, api.OK, "")
			if text != "q" {
				checkOffence(t, "a port", port, api.OK, "")
			}
			checkOffence(t, "a field", api.Config{Fields: []api.Field{{Name: text, Bits: 1}}, Routing: text}, api.OK, "")
			continue
		}
		checkOffence(t, "a box", box, api.ErrName, text)
		checkOffence(t, "a port", port, api.ErrName, "B."+text)
		checkOffence(t, "a slice", slice, api.ErrName, text)
		checkOffence(t, "a field", api.Config{Fields: []api.Field{{Name: text, Bits: 1}}}, api.ErrLayout, text)
	}
}

// All prefixes of a small field, and those just beside it.
func TestPrefixes(t *testing.T) {
	for bits := 1; bits <= 4; bits++ {
		for value := -2; value <= 1<<bits+1; value++ {
			for length := -1; length <= bits+1; length++ {
				p := []api.Prefix{{Value: value, Len: length, To: "o"}}
				right := length >= 0 && length <= bits && slices.Contains(multiples(bits, length), value)
				c := api.Config{Fields: []api.Field{{Name: "x", Bits: 9}, {Name: "f", Bits: bits}}, Routing: "f"}
				own, route := c, c
				own.Boxes = []api.Box{{Name: "B", Outs: []string{"o"}, Owns: p}}
				route.Boxes = []api.Box{{Name: "B", Outs: []string{"o"}, Routes: p}}
				what := fmt.Sprintf("%d/%d of %d bits", value, length, bits)
				if right {
					checkOffence(t, what, own, api.OK, "")
					checkOffence(t, what, route, api.OK, "")
				} else {
					checkOffence(t, what, own, api.ErrPrefix, "B own")
					checkOffence(t, what, route, api.ErrPrefix, "B route")
				}
				own.Routing, route.Routing = "", ""
				checkOffence(t, what+", not routed on", own, api.ErrPrefix, "B own")
				checkOffence(t, what+", not routed on", route, api.ErrPrefix, "B route")
			}
		}
	}
}

// multiples: the values of a field of that many bits that a prefix of that length may have.
func multiples(bits, length int) []int {
	var list []int
	for value := 0; value < 1<<bits; value += 1 << (bits - length) {
		list = append(list, value)
	}
	return list
}
