package delta_test

// Pairs of well-formed configurations of one head by a source of mixed numbers.

import (
	"fmt"
	"reflect"
	"slices"
	"testing"

	"reach/api"
	"reach/conf"
	"reach/model"
)

func (s *source) oneOf(words ...string) string { return words[s.below(len(words))] }

// pick: up to most of a list's elements, each once, in a mixed order.
func pick[T any](s *source, list []T, most int) []T {
	return mixed(s, list)[:s.below(min(most, len(list))+1)]
}

func mixed[T any](s *source, list []T) []T {
	out := slices.Clone(list)
	for n := range out {
		to := n + s.below(len(out)-n)
		out[n], out[to] = out[to], out[n]
	}
	return out
}

func named(like string, count int) []string {
	var list []string
	for n := range count {
		list = append(list, fmt.Sprint(like, n))
	}
	return list
}

// head: what both networks of a pair have.
func (s *source) head() api.Config {
	c := api.Config{Title: s.oneOf("", "lab", "a\n\"b\"\xff")}
	for _, name := range named("f", 1+s.below(4)) {
		c.Fields = append(c.Fields, api.Field{Name: name, Bits: []int{1, 2, 4, 8, 16, 17, 32}[s.below(7)]})
	}
	if s.below(4) > 0 {
		c.Routing, c.Slim = c.Fields[s.below(len(c.Fields))].Name, s.below(2) == 0
	}
	return c
}

func (s *source) value(bits int) int {
	most := 1<<bits - 1
	return []int{0, 1, most, most / 3, s.below(1<<31)<<1 | s.below(2)}[s.below(5)] & most
}

func (s *source) leaf(fields []api.Field) api.Node {
	if kind := 1 + s.below(8); kind < api.NodeTest {
		return api.Node{Kind: kind}
	}
	f := fields[s.below(len(fields))]
	t := api.Test{Field: f.Name, Op: 1 + s.below(6), Form: api.FormNumber, Lo: s.value(f.Bits)}
	if t.Op > api.OpNot {
		return api.Node{Kind: api.NodeTest, Test: t}
	}
	switch t.Form = 1 + s.below(4); t.Form {
	case api.FormPrefix:
		t.Len = s.below(f.Bits + 1)
		t.Lo = t.Lo >> (f.Bits - t.Len) << (f.Bits - t.Len)
	case api.FormRange:
		other := s.value(f.Bits)
		t.Lo, t.Hi = min(t.Lo, other), max(t.Lo, other)
	case api.FormPattern:
		t.Lo, t.Pattern = 0, s.cube(f.Bits, "01x")
	}
	return api.Node{Kind: api.NodeTest, Test: t}
}

func (s *source) match(fields []api.Field, joins int) []api.Node {
	list := []api.Node{s.leaf(fields)}
	for range s.below(joins + 1) {
		if s.below(3) == 0 && joins < 10 {
			list = append(list, api.Node{Kind: api.NodeNot})
		} else {
			list = append(list, s.leaf(fields), api.Node{Kind: api.NodeAnd + s.below(2)})
		}
	}
	return list
}

func (s *source) rule(fields []api.Field, b api.Box, priority int) api.Rule {
	r := api.Rule{Priority: priority, From: pick(s, b.Ins, 3), Match: s.match(fields, 3), To: pick(s, b.Outs, 4)}
	for _, f := range pick(s, fields, 12) {
		r.Sets = append(r.Sets, api.Set{Field: f.Name, Value: s.value(f.Bits)})
	}
	return r
}

func (s *source) prefixes(bits int, b api.Box, most int) []api.Prefix {
	var list []api.Prefix
	seen := map[[2]int]int{}
	for range s.below(most + 1) {
		length := min(bits, []int{0, 1, 2, bits, s.below(bits + 1)}[s.below(5)])
		value := s.value(bits) >> (bits - length) << (bits - length)
		if seen[[2]int{value, length}]++; seen[[2]int{value, length}] == 1 {
			list = append(list, api.Prefix{Value: value, Len: length, To: b.Outs[s.below(len(b.Outs))]})
		}
	}
	return list
}

// body: all of a box but its name, ports and guards.
func (s *source) body(c api.Config, b api.Box) api.Box {
	b.Rules, b.Owns, b.Routes = nil, nil, nil
	for _, priority := range pick(s, []int{0, 1, 5, 65535, 10, 9}, 4) {
		b.Rules = append(b.Rules, s.rule(c.Fields, b, priority))
	}
	at := slices.IndexFunc(c.Fields, func(f api.Field) bool { return f.Name == c.Routing })
	if at >= 0 && len(b.Outs) > 0 {
		b.Owns, b.Routes = s.prefixes(c.Fields[at].Bits, b, 2), s.prefixes(c.Fields[at].Bits, b, 2)
	}
	return b
}

func (s *source) guards(c api.Config, b api.Box) []api.Line {
	var lines []api.Line
	for range s.below(2) * s.below(7) {
		if ports := slices.Concat(b.Ins, b.Outs); len(ports) > 0 {
			lines = append(lines, api.Line{Port: ports[s.below(min(4, len(ports)))], Permit: s.below(2) == 0, Match: s.match(c.Fields, 1)})
		}
	}
	return lines
}

func (s *source) box(c api.Config, name string) api.Box {
	all := mixed(s, named("p", s.below(8)))
	ins := s.below(len(all) + 1)
	b := api.Box{Name: name, Ins: all[:ins:ins], Outs: all[ins:]}
	b.Guards = s.guards(c, b)
	return s.body(c, b)
}

// fullNames: those of the in-ports and of the out-ports.
func fullNames(c api.Config) (ins, outs []string) {
	for _, b := range c.Boxes {
		for _, p := range b.Ins {
			ins = append(ins, b.Name+"."+p)
		}
		for _, p := range b.Outs {
			outs = append(outs, b.Name+"."+p)
		}
	}
	return ins, outs
}

// links: links and slices of these boxes.
func (s *source) links(c api.Config) api.Config {
	c.Links, c.Slices = nil, nil
	ins, outs := fullNames(c)
	for _, from := range pick(s, outs, len(outs)) {
		if len(ins) > 0 {
			c.Links = append(c.Links, api.Link{From: from, To: ins[s.below(len(ins))], Cost: []int{1, 9999, 7}[s.below(3)]})
		}
	}
	for _, name := range pick(s, named("s", 3), 3) {
		c.Slices = append(c.Slices, api.Slice{Name: name, Ports: pick(s, append(outs, ins...), 4), Where: s.match(c.Fields, 2)})
	}
	return c
}

// network: a well-formed one of that head, with up to six boxes.
func (s *source) network(c api.Config) api.Config {
	c.Boxes = nil
	for _, name := range pick(s, named("B", 6), 6) {
		c.Boxes = append(c.Boxes, s.box(c, name))
	}
	return s.links(c)
}

func cloned(c api.Config) api.Config { return withSpare(c) }

// sameAs: the same network by conf.Same, with every list in another order that may be.
func (s *source) sameAs(c api.Config) api.Config {
	c = cloned(c)
	for at := range c.Boxes {
		b := &c.Boxes[at]
		b.Rules, b.Owns, b.Routes = mixed(s, b.Rules), mixed(s, b.Owns), mixed(s, b.Routes)
		for n := range b.Rules {
			b.Rules[n].From = mixed(s, b.Rules[n].From)
		}
	}
	c.Links, c.Slices = mixed(s, c.Links), mixed(s, c.Slices)
	return c
}

// sameBoxes: the same boxes, with some other rules, prefixes, links and slices.
func (s *source) sameBoxes(c api.Config) api.Config {
	other := s.links(c)
	c = s.sameAs(c)
	for at, b := range c.Boxes {
		if s.below(2) == 0 {
			c.Boxes[at] = s.body(c, b)
		}
	}
	if s.below(2) == 0 {
		c.Links = other.Links
	}
	if s.below(2) == 0 {
		c.Slices = other.Slices
	}
	return c
}

// spots calls look with every leaf and every list of a value, and the name of the part that it stands in.
func spots(v reflect.Value, name string, look func(spot reflect.Value, name string)) {
	switch v.Kind() {
	case reflect.Struct:
		for n := range v.NumField() {
			spots(v.Field(n), v.Type().Name()+"."+v.Type().Field(n).Name, look)
		}
	case reflect.Slice:
		look(v, name)
		for n := range v.Len() {
			spots(v.Index(n), name, look)
		}
	default:
		look(v, name)
	}
}

// varied: the network with one leaf or list changed, of a part that is drawn ahead of the spot, so that rare parts are changed as often as others. What is no more well-formed is not taken.
func (s *source) varied(c api.Config) api.Config {
	changed := cloned(c)
	byPart := map[string][]reflect.Value{}
	var parts, texts []string
	spots(reflect.ValueOf(&changed).Elem(), "", func(spot reflect.Value, name string) {
		part := name + " " + spot.Kind().String()
		if byPart[part] == nil {
			parts = append(parts, part)
		}
		byPart[part] = append(byPart[part], spot)
		if spot.Kind() == reflect.String {
			texts = append(texts, spot.String())
		}
	})
	of := byPart[parts[s.below(len(parts))]]
	s.change(of[s.below(len(of))], texts)
	changed.Title, changed.Fields, changed.Routing, changed.Slim = c.Title, c.Fields, c.Routing, c.Slim
	if errno, _ := model.Check(changed); errno != api.OK {
		return c
	}
	return changed
}

func (s *source) change(spot reflect.Value, texts []string) {
	switch spot.Kind() {
	case reflect.String:
		spot.SetString(append(texts, "q", "B9", "p9")[s.below(len(texts)+3)])
	case reflect.Bool:
		spot.SetBool(!spot.Bool())
	case reflect.Int:
		spot.SetInt(int64([]int{int(spot.Int()) + 1, int(spot.Int()) - 1, 1, 2, 5, 65535}[s.below(6)]))
	case reflect.Slice:
		n := spot.Len()
		if n == 0 {
			return
		}
		if at := s.below(n); s.below(2) == 0 {
			reflect.Swapper(spot.Interface())(at, s.below(n))
		} else {
			spot.Set(reflect.AppendSlice(spot.Slice(0, at), spot.Slice(at+1, n)))
		}
	}
}

// reboxed: the network with boxes in another order, some of them gone, with all that names them, some of them new or with their ports in another order.
func (s *source) reboxed(c api.Config) api.Config {
	c = s.sameAs(c)
	c.Boxes = mixed(s, c.Boxes)
	c.Boxes = c.Boxes[:len(c.Boxes)-s.below(min(3, len(c.Boxes)+1))]
	for at := range c.Boxes {
		b := &c.Boxes[at]
		switch s.below(5) {
		case 0:
			b.Ins, b.Guards = mixed(s, b.Ins), s.guards(c, *b)
		case 1:
			b.Outs, b.Guards = mixed(s, b.Outs), mixed(s, b.Guards)
		case 2:
			b.Guards = pick(s, b.Guards, len(b.Guards))
		}
	}
	for _, name := range pick(s, named("C", 2), 2) {
		c.Boxes = slices.Insert(c.Boxes, s.below(len(c.Boxes)+1), s.box(c, name))
	}
	ins, outs := fullNames(c)
	c.Links = slices.DeleteFunc(c.Links, func(k api.Link) bool {
		return !slices.Contains(outs, k.From) || !slices.Contains(ins, k.To)
	})
	for at := range c.Slices {
		c.Slices[at].Ports = slices.DeleteFunc(c.Slices[at].Ports, func(p string) bool {
			return !slices.Contains(outs, p) && !slices.Contains(ins, p)
		})
	}
	return c
}

// configs: two well-formed networks of one head.
func (s *source) configs() (a, b api.Config) {
	a = s.network(s.head())
	switch s.below(6) {
	case 0:
		b = s.network(a)
	case 1:
		b = s.sameAs(a)
	case 2:
		b = s.sameBoxes(a)
	case 3:
		b = s.reboxed(a)
	default:
		b = a
		for range 1 + s.below(12) {
			b = s.varied(b)
		}
	}
	return a, b
}

func TestTheSourceMakesConfigurations(t *testing.T) {
	s := source(13)
	same := 0
	for range 1000 {
		a, b := s.configs()
		for _, c := range []api.Config{a, b} {
			if errno, told := model.Check(c); errno != api.OK {
				t.Fatalf("%d, %s of %+v", errno, told, c)
			}
		}
		if conf.Same(a, b) {
			same++
		}
	}
	if same < 100 || same > 500 {
		t.Errorf("%d of 1000 pairs are the same", same)
	}
}
