package lower_test

// Networks by a source of mixed numbers: as configurations that are well-formed, and as numbers.

import (
	"fmt"
	"strings"

	"reach/api"
)

type source uint64

func (s *source) below(n int) int {
	*s = *s*6364136223846793005 + 1442695040888963407
	return int(uint64(*s) >> 33 % uint64(n))
}

func (s *source) oneOf(words ...string) string { return words[s.below(len(words))] }

// pick: up to most of a list's elements, each once, in a mixed order.
func pick[T any](s *source, list []T, most int) []T {
	return mixed(s, list)[:s.below(min(most, len(list))+1)]
}

func mixed[T any](s *source, list []T) []T {
	out := append([]T(nil), list...)
	for n := range out {
		to := n + s.below(len(out)-n)
		out[n], out[to] = out[to], out[n]
	}
	return out
}

func numbered(like string, count int) []string {
	var list []string
	for n := range count {
		list = append(list, fmt.Sprint(like, n))
	}
	return list
}

// fields: a layout of at most that many bits, each field's at most most.
func (s *source) fields(bits, most int) []api.Field {
	var fields []api.Field
	for n := range 1 + s.below(12) {
		if bits > 0 {
			width := 1 + s.below(min(most, bits))
			bits -= width
			fields = append(fields, api.Field{Name: fmt.Sprint("f", n), Bits: width})
		}
	}
	return fields
}

func (s *source) value(bits int) int {
	most := 1<<bits - 1
	return []int{0, 1, most, most / 3, s.below(1<<31)<<1 | s.below(2)}[s.below(5)] & most
}

func (s *source) test(fields []api.Field) api.Test {
	f := fields[s.below(len(fields))]
	t := api.Test{Field: f.Name, Op: 1 + s.below(6), Form: api.FormNumber, Lo: s.value(f.Bits)}
	if t.Op > api.OpNot {
		return t
	}
	switch t.Form = 1 + s.below(4); t.Form {
	case api.FormPrefix:
		t.Len = s.below(f.Bits + 1)
		t.Lo = t.Lo >> (f.Bits - t.Len) << (f.Bits - t.Len)
	case api.FormRange:
		other := s.value(f.Bits)
		t.Lo, t.Hi = min(t.Lo, other), max(t.Lo, other)
	case api.FormPattern:
		t.Lo = 0
		for range f.Bits {
			t.Pattern += s.oneOf("0", "1", "x")
		}
	}
	return t
}

func (s *source) leaf(fields []api.Field) api.Node {
	if kind := 1 + s.below(10); kind < api.NodeTest {
		return api.Node{Kind: kind}
	}
	return api.Node{Kind: api.NodeTest, Test: s.test(fields)}
}

// match: one that is right, though it may take too many cubes.
func (s *source) match(fields []api.Field) []api.Node {
	list := []api.Node{s.leaf(fields)}
	for range s.below(4) {
		if s.below(3) == 0 {
			list = append(list, api.Node{Kind: api.NodeNot})
		} else {
			list = append(list, s.leaf(fields), api.Node{Kind: api.NodeAnd + s.below(2)})
		}
	}
	return list
}

func (s *source) rule(fields []api.Field, b api.Box, priority int) api.Rule {
	r := api.Rule{Priority: priority, From: pick(s, b.Ins, 3), Match: s.match(fields), To: pick(s, b.Outs, 4)}
	for _, f := range pick(s, fields, 12) {
		r.Sets = append(r.Sets, api.Set{Field: f.Name, Value: s.value(f.Bits)})
	}
	return r
}

// prefixes: few lengths and values, so that boxes have some in common.
func (s *source) prefixes(bits int, b api.Box, most int) []api.Prefix {
	var list []api.Prefix
	seen := map[[2]int]int{}
	for range s.below(most + 1) {
		length := min(bits, []int{0, 1, 2, 3, bits, s.below(bits + 1)}[s.below(6)])
		value := s.value(bits) >> (bits - length) << (bits - length)
		if seen[[2]int{value, length}]++; seen[[2]int{value, length}] == 1 {
			list = append(list, api.Prefix{Value: value, Len: length, To: b.Outs[s.below(len(b.Outs))]})
		}
	}
	return list
}

func (s *source) box(c api.Config, name string, ports, most int) api.Box {
	all := mixed(s, numbered("p", ports))
	ins := s.below(len(all) + 1)
	b := api.Box{Name: name, Ins: all[:ins:ins], Outs: all[ins:]}
	for range s.below(most + 1) {
		if len(all) > 0 {
			b.Guards = append(b.Guards, api.Line{Port: all[s.below(len(all))], Permit: s.below(2) == 0, Match: s.match(c.Fields)})
		}
	}
	for _, priority := range pick(s, []int{0, 1, 5, 65535, 10, 9, 100, 65534, 1000, 2}, most) {
		b.Rules = append(b.Rules, s.rule(c.Fields, b, priority))
	}
	if c.Routing != "" && len(b.Outs) > 0 {
		bits := tellBits(c.Fields, c.Routing)
		b.Owns, b.Routes = s.prefixes(bits, b, most/2), s.prefixes(bits, b, most/2)
	}
	return b
}

// network: a well-formed one of up to that many boxes, at most 16.
func (s *source) network(fields []api.Field, boxes int) api.Config {
	c := api.Config{Title: s.oneOf("", "lab"), Fields: fields}
	if s.below(4) > 0 {
		c.Routing, c.Slim = fields[s.below(len(fields))].Name, s.below(2) == 0
	}
	for _, name := range pick(s, numbered("B", boxes), boxes) {
		c.Boxes = append(c.Boxes, s.box(c, name, s.below(48/boxes+1), min(8, 64/boxes)))
	}
	var ins, outs []string
	for _, p := range tellPorts(c) {
		if p.In {
			ins = append(ins, p.Name)
		} else {
			outs = append(outs, p.Name)
		}
	}
	for _, from := range pick(s, outs, len(outs)) {
		if len(ins) > 0 {
			c.Links = append(c.Links, api.Link{From: from, To: ins[s.below(len(ins))], Cost: []int{1, 9999, 7}[s.below(3)]})
		}
	}
	for _, name := range pick(s, numbered("s", 8), 8) {
		c.Slices = append(c.Slices, api.Slice{Name: name, Ports: pick(s, append(outs, ins...), 5), Where: s.match(c.Fields)})
	}
	return c
}

// small: a network whose headers can be gone through one by one.
func (s *source) small() api.Config {
	return s.network(s.fields(1+s.below(8), 4), 1+s.below(5))
}

// great: a network of wide headers.
func (s *source) great() api.Config {
	return s.network(s.fields(32+s.below(225), 32), 1+s.below(16))
}

func (s *source) cube(bits int) string {
	var text strings.Builder
	for range bits {
		text.WriteString(s.oneOf("0", "1", "x", "x"))
	}
	return text.String()
}

func (s *source) cubes(bits, most int) []string {
	var list []string
	for range s.below(most + 1) {
		list = append(list, s.cube(bits))
	}
	return list
}

// net: a valid one as no configuration need give it: the ports of a box do not stand together, entries have nothing.
func (s *source) net() api.Net {
	n := api.Net{Bits: []int{1, 2, 7, 64, 65, 255, 256}[s.below(7)]}
	boxes := s.below(17)
	for at := range min(boxes, 1) * s.below(49) {
		n.Ports = append(n.Ports, api.Port{Name: fmt.Sprint(s.oneOf("R", "in", "any", "_"), at, s.oneOf(".a", ".to", "._9")), Box: s.below(boxes), In: s.below(2) == 0, To: -1})
		n.Guards = append(n.Guards, nil)
	}
	for at, p := range n.Ports {
		if to := s.below(len(n.Ports)); !p.In && n.Ports[to].In {
			n.Ports[at].To = to
		}
		if s.below(6) == 0 {
			for range s.below(4) {
				n.Guards[at] = append(n.Guards[at], api.Guard{Permit: s.below(2) == 0, Cubes: s.cubes(n.Bits, 3)})
			}
		}
	}
	for box := range boxes {
		n.Tables = append(n.Tables, nil)
		for range s.below(5) {
			n.Tables[box] = append(n.Tables[box], s.entry(n, box))
		}
	}
	return n
}

func (s *source) entry(n api.Net, box int) api.Entry {
	e := api.Entry{Name: s.oneOf("", "a b", "\xff\n", strings.Repeat("n", 256)), Cubes: s.cubes(n.Bits, 3), Write: s.cube(n.Bits)}
	var outs []int
	for at, p := range n.Ports {
		switch {
		case p.Box != box:
		case !p.In:
			outs = append(outs, at)
		case s.below(2) == 0:
			e.Ins = append(e.Ins, at)
		}
	}
	e.Outs = pick(s, outs, 4)
	return e
}
