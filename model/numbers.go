package model

import (
	"cmp"
	"slices"

	"reach/api"
)

// named are the ports by their numbers. The map's order is not seen: each name has one place.
func (l *look) named() []api.Port {
	for name, number := range l.numbers {
		l.ports[number].Name = name
	}
	return l.ports
}

// edges are told in the order of the out-ports, so that the order of the links says nothing.
func (l *look) edges() []api.Edge {
	edges := make([]api.Edge, 0, len(l.net.Links))
	for _, link := range l.net.Links {
		out, in := l.numbers[link.From], l.numbers[link.To]
		edges = append(edges, api.Edge{From: l.ports[out].Box, To: l.ports[in].Box, Cost: link.Cost, Out: out})
	}
	slices.SortFunc(edges, func(a, b api.Edge) int { return cmp.Compare(a.Out, b.Out) })
	return edges
}

func (l *look) numbersOf(ports []string) []int {
	numbers := make([]int, 0, len(ports))
	for _, port := range ports {
		numbers = append(numbers, l.numbers[port])
	}
	return numbers
}
