package model_test

// Networks by a source of mixed numbers: well-formed ones, and such with damages.

import (
	"fmt"
	"reflect"
	"strings"

	"reach/api"
)

type source uint64

func (s *source) below(n int) int {
	*s = *s*6364136223846793005 + 1442695040888963407
	return int(uint64(*s) >> 33 % uint64(n))
}

func (s *source) oneOf(words ...string) string { return words[s.below(len(words))] }

// pick: up to most of a list's elements, each once, in a mixed order.
func pick[T any](s *source, list []T, most int) []T {
	rest := append([]T(nil), list...)
	var out []T
	for range s.below(min(most, len(list)) + 1) {
		n := s.below(len(rest))
		out = append(out, rest[n])
		rest = append(rest[:n], rest[n+1:]...)
	}
	return out
}

const longName = "x_23456789012345678901234"

// names: ones that may be had; the first three are the same in every list of them.
func names(like string) []string {
	list := []string{"a", "In", longName[:24], "_", "too"}
	for n := range 20 {
		list = append(list, fmt.Sprintf("%s%d", like, n))
	}
	return list
}

func (s *source) fields() []api.Field {
	list := pick(s, names("f"), 11)
	fields := []api.Field{{Name: "dst", Bits: 1 + s.below(32)}}
	for _, name := range list {
		fields = append(fields, api.Field{Name: name, Bits: 1 + s.below(20)})
	}
	return fields
}

func (s *source) value(bits int) int {
	most := 1<<bits - 1
	return []int{0, 1, most, s.below(1 << min(bits, 30))}[s.below(4)] & most
}

// test: one that fits its field.
func (s *source) test(fields []api.Field) api.Test {
	f := fields[s.below(len(fields))]
	t := api.Test{Field: f.Name, Op: 1 + s.below(6), Form: api.FormNumber, Lo: s.value(f.Bits)}
	if t.Op > api.OpNot {
		return t
	}
	switch t.Form = 1 + s.below(4); t.Form {
	case api.FormPrefix:
		t.Len = s.below(f.Bits + 1)
		t.Lo = t.Lo >> (f.Bits - t.Len) << (f.Bits - t.Len)
	case api.FormRange:
		t.Lo, t.Hi = min(t.Lo, 1), t.Lo
		t.Lo = min(t.Lo, t.Hi)
	case api.FormPattern:
		t.Lo = 0
		for range f.Bits {
			t.Pattern += s.oneOf("0", "1", "x")
		}
	}
	return t
}

// match: one that is right.
func (s *source) match(fields []api.Field) []api.Node {
	list := []api.Node{s.leaf(fields)}
	for range s.below(4) {
		switch s.below(3) {
		case 0:
			list = append(list, api.Node{Kind: api.NodeNot})
		default:
			list = append(list, s.leaf(fields), api.Node{Kind: api.NodeAnd + s.below(2)})
		}
	}
	return list
}

// longMatch: a right one of 63 nodes.
func (s *source) longMatch(fields []api.Field) []api.Node {
	list := []api.Node{s.leaf(fields)}
	for len(list) < 63 {
		list = append(list, s.leaf(fields), api.Node{Kind: api.NodeAnd + s.below(2)})
	}
	return list
}

func (s *source) leaf(fields []api.Field) api.Node {
	if kind := 1 + s.below(6); kind < api.NodeTest {
		return api.Node{Kind: kind}
	}
	return api.Node{Kind: api.NodeTest, Test: s.test(fields)}
}

func (s *source) rule(fields []api.Field, b api.Box, priority int) api.Rule {
	r := api.Rule{Priority: priority, From: pick(s, b.Ins, 3), Match: s.match(fields), To: pick(s, b.Outs, 4)}
	for _, f := range pick(s, fields, 12) {
		r.Sets = append(r.Sets, api.Set{Field: f.Name, Value: s.value(f.Bits)})
	}
	return r
}

// prefixes: up to two, of unlike lengths.
func (s *source) prefixes(bits int, b api.Box) []api.Prefix {
	var lengths []int
	for length := range bits + 1 {
		lengths = append(lengths, length)
	}
	var list []api.Prefix
	for _, length := range pick(s, lengths, 2) {
		value := s.value(bits) >> (bits - length) << (bits - length)
		list = append(list, api.Prefix{Value: value, Len: length, To: b.Outs[s.below(len(b.Outs))]})
	}
	return list
}

func (s *source) box(c api.Config, name string, ports int) api.Box {
	all := pick(s, names("p"), ports)
	ins := s.below(len(all) + 1)
	b := api.Box{Name: name, Ins: all[:ins:ins], Outs: all[ins:]}
	for _, p := range pick(s, all, 3) {
		b.Guards = append(b.Guards, api.Line{Port: p, Permit: s.below(2) == 0, Match: s.match(c.Fields)})
	}
	for _, priority := range pick(s, []int{0, 1, 5, 65535, 10, 9}, 4) {
		b.Rules = append(b.Rules, s.rule(c.Fields, b, priority))
	}
	if c.Routing != "" && len(b.Outs) > 0 {
		for _, f := range c.Fields {
			if f.Name == c.Routing {
				b.Owns, b.Routes = s.prefixes(f.Bits, b), s.prefixes(f.Bits, b)
			}
		}
	}
	return b
}

// network: a well-formed one of up to that many boxes, at most 16.
func (s *source) network(boxes int) api.Config {
	c := api.Config{Title: s.oneOf("", "lab", "\xff\n\u200b\"", strings.Repeat("é", 128)), Fields: s.fields()}
	if s.below(4) > 0 {
		c.Routing, c.Slim = c.Fields[s.below(len(c.Fields))].Name, s.below(2) == 0
	}
	for _, name := range pick(s, names("B"), boxes) {
		c.Boxes = append(c.Boxes, s.box(c, name, 48/boxes))
	}
	ins, outs := fullNames(c)
	for _, from := range pick(s, outs, len(outs)) {
		if len(ins) > 0 {
			c.Links = append(c.Links, api.Link{From: from, To: ins[s.below(len(ins))], Cost: []int{1, 9999, 7}[s.below(3)]})
		}
	}
	for _, name := range pick(s, names("s"), 8) {
		c.Slices = append(c.Slices, api.Slice{Name: name, Ports: pick(s, append(outs, ins...), 5), Where: s.match(c.Fields)})
	}
	return c
}

// spots calls look with every leaf and every list of a value, and the name of the part that it stands in.
func spots(v reflect.Value, name string, look func(spot reflect.Value, name string)) {
	switch v.Kind() {
	case reflect.Struct:
		for n := range v.NumField() {
			spots(v.Field(n), v.Type().Name()+"."+v.Type().Field(n).Name, look)
		}
	case reflect.Slice:
		look(v, name)
		for n := range v.Len() {
			spots(v.Index(n), name, look)
		}
	default:
		look(v, name)
	}
}

// damaged: the network with one leaf or list changed, of a part that is drawn ahead of the spot, so that rare parts are changed as often as others.
func (s *source) damaged(c api.Config) api.Config {
	c = cloned(c)
	byPart := map[string][]reflect.Value{}
	var parts, texts, ports []string
	spots(reflect.ValueOf(&c).Elem(), "", func(spot reflect.Value, name string) {
		part := name + " " + spot.Kind().String()
		if byPart[part] == nil {
			parts = append(parts, part)
		}
		byPart[part] = append(byPart[part], spot)
		if spot.Kind() == reflect.String {
			texts = append(texts, spot.String())
		}
		if part == "Box.Ins string" || part == "Box.Outs string" {
			ports = append(ports, spot.String())
		}
	})
	ins, outs := fullNames(c)
	texts = append(texts, "", "in", "any", "a", "In", "a.a", "B0.p0", "B1", "é", "a b", "1a", longName)
	for _, list := range [][]string{ports, append(ins, outs...)} {
		if len(list) > 0 && s.below(3) == 0 {
			texts = list
		}
	}
	of := byPart[parts[s.below(len(parts))]]
	s.change(of[s.below(len(of))], texts)
	return c
}

func (s *source) change(spot reflect.Value, texts []string) {
	switch spot.Kind() {
	case reflect.String:
		spot.SetString(texts[s.below(len(texts))])
	case reflect.Bool:
		spot.SetBool(!spot.Bool())
	case reflect.Int:
		was := int(spot.Int())
		spot.SetInt(int64([]int{was - 1, was + 1, 0, 1, 5, -1, 2 * was, 9999, 10000, 65535, 65536, -1 << 63, 1<<63 - 1}[s.below(13)]))
	case reflect.Slice:
		s.changeList(spot)
	}
}

// changeList: an element is doubled, or all are, or one is taken away, or added without anything in it; or two change places.
func (s *source) changeList(list reflect.Value) {
	n := list.Len()
	if n == 0 {
		list.Set(reflect.MakeSlice(list.Type(), 1, 1))
		return
	}
	at, to := s.below(n), s.below(n)
	switch s.below(5) {
	case 4:
		list.Set(reflect.AppendSlice(list, list))
	case 0:
		list.Set(reflect.Append(list, list.Index(at)))
	case 1:
		list.Set(reflect.AppendSlice(list.Slice(0, at), list.Slice(at+1, n)))
	case 2:
		list.Set(reflect.Append(list, reflect.New(list.Type().Elem()).Elem()))
	case 3:
		reflect.Swapper(list.Interface())(at, to)
	}
}
