package rib_test

// Routes, graphs and networks by a source of mixed numbers.

import (
	"fmt"

	"reach/api"
)

type source uint64

func (s *source) below(n int) int {
	*s = *s*6364136223846793005 + 1442695040888963407
	return int(uint64(*s) >> 33 % uint64(n))
}

// pick: up to most of a list's elements, each once, in a mixed order.
func pick[T any](s *source, list []T, most int) []T {
	rest := append([]T(nil), list...)
	var out []T
	for range s.below(min(most, len(list)) + 1) {
		n := s.below(len(rest))
		out = append(out, rest[n])
		rest = append(rest[:n], rest[n+1:]...)
	}
	return out
}

// value: one of b bits; few of them, so that prefixes meet, but for some.
func (s *source) value(bits int) int {
	most := 1<<bits - 1
	few := []int{0, most, 1, most / 3, most ^ 1, 1 << (bits - 1)}
	if s.below(4) > 0 {
		return few[s.below(len(few))] & most
	}
	return (s.below(1<<31)<<1 | s.below(2)) & most
}

func (s *source) route(bits, outs int) api.Route {
	length := s.below(bits + 1)
	if s.below(3) == 0 {
		length = min(bits, s.below(4))
	}
	value := s.value(bits) >> (bits - length) << (bits - length)
	return api.Route{Kind: 1 + s.below(3), Value: value, Len: length, Out: s.below(outs)}
}

// tree: the routes of a prefix that is cut into halves again and again, some of the pieces left out: so that longer ones have all of a shorter one, often.
func (s *source) tree(bits, value, length, most, outs int) []api.Route {
	var list []api.Route
	if s.below(2) == 0 || length == most && s.below(8) > 0 {
		list = append(list, api.Route{Kind: 1 + s.below(3), Value: value, Len: length, Out: s.below(outs)})
	}
	if length < most {
		list = append(list, s.tree(bits, value, length+1, most, outs)...)
		list = append(list, s.tree(bits, value|1<<(bits-length-1), length+1, most, outs)...)
	}
	return list
}

// routes: up to that many, in a mixed order.
func (s *source) routes(bits, most int) []api.Route {
	outs := []int{1, 2, 3, 48}[s.below(4)]
	var list []api.Route
	if s.below(2) == 0 {
		begin := s.below(bits + 1)
		value := s.value(bits) >> (bits - begin) << (bits - begin)
		list = s.tree(bits, value, begin, min(bits, begin+1+s.below(5)), outs)
	}
	for range s.below(most + 1) {
		list = append(list, s.route(bits, outs))
	}
	return mixed(s, list)[:min(most, len(list))]
}

func mixed[T any](s *source, list []T) []T {
	out := append([]T(nil), list...)
	for n := range out {
		to := n + s.below(len(out)-n)
		out[n], out[to] = out[to], out[n]
	}
	return out
}

// values: those at the borders of the routes' prefixes, and others.
func (s *source) values(bits int, routes []api.Route) []int {
	list := []int{0, 1<<bits - 1, s.value(bits), s.value(bits)}
	for _, r := range pick(s, routes, 4) {
		last := r.Value | (1<<(bits-r.Len) - 1)
		list = append(list, r.Value, last, max(r.Value-1, 0), min(last+1, 1<<bits-1))
	}
	return list
}

func (s *source) edges(nodes, most int) []api.Edge {
	var list []api.Edge
	costs := [][]int{{1}, {1, 2, 3}, {1, 2, 3, 9999}, {9998, 9999}}[s.below(4)]
	for range s.below(most + 1) {
		list = append(list, api.Edge{From: s.below(nodes), To: s.below(nodes), Cost: costs[s.below(len(costs))], Out: s.below(48)})
	}
	return list
}

func (s *source) prefixes(bits int, b api.Box, most int) []api.Prefix {
	var list []api.Prefix
	seen := map[[2]int]int{}
	for range s.below(most + 1) {
		r := s.route(bits, 1)
		if seen[[2]int{r.Value, r.Len}]++; seen[[2]int{r.Value, r.Len}] == 1 {
			list = append(list, api.Prefix{Value: r.Value, Len: r.Len, To: b.Outs[s.below(len(b.Outs))]})
		}
	}
	return list
}

// network: a well-formed one of up to that many boxes, at most 16.
func (s *source) network(boxes int) api.Config {
	bits := []int{1, 2, 3, 4, 8, 31, 32}[s.below(7)]
	c := api.Config{Fields: []api.Field{{Name: "src", Bits: 1 + s.below(32)}, {Name: "dst", Bits: bits}, {Name: "tag", Bits: 3}}}
	if s.below(12) > 0 {
		c.Routing, c.Slim = "dst", s.below(2) == 0
	}
	for n := range s.below(boxes + 1) {
		b := api.Box{Name: fmt.Sprint("B", n)}
		for p := range s.below(1 + 24/boxes) {
			b.Ins = append(b.Ins, fmt.Sprint("i", p))
		}
		for p := range s.below(1 + 24/boxes) {
			b.Outs = append(b.Outs, fmt.Sprint("o", p))
		}
		if c.Routing != "" && len(b.Outs) > 0 {
			b.Owns, b.Routes = s.prefixes(bits, b, min(12, 64/boxes/2)), s.prefixes(bits, b, min(6, 64/boxes/2))
		}
		c.Boxes = append(c.Boxes, b)
	}
	c.Links = s.links(c)
	return c
}

func (s *source) links(c api.Config) []api.Link {
	var ins, outs []string
	for _, b := range c.Boxes {
		for _, p := range b.Ins {
			ins = append(ins, b.Name+"."+p)
		}
		for _, p := range b.Outs {
			outs = append(outs, b.Name+"."+p)
		}
	}
	var list []api.Link
	for _, from := range pick(s, outs, len(outs)) {
		if len(ins) > 0 {
			list = append(list, api.Link{From: from, To: ins[s.below(len(ins))], Cost: []int{1, 1, 2, 5, 9999}[s.below(5)]})
		}
	}
	return list
}
