package rib_test

import (
	"slices"
	"testing"

	"reach/api"
	"reach/rib"
)

func checkGraph(t *testing.T, nodes int, edges []api.Edge, dests ...int) {
	t.Helper()
	far, first, errno := tellShortest(nodes, edges, dests...)
	checkShortest(t, nodes, edges, dests, far, first, errno)
}

func TestErrorsOfShortest(t *testing.T) {
	const least, most = -1 << 63, 1<<63 - 1
	right, wrong := api.Edge{Cost: 1}, api.Edge{}
	edges := func(e api.Edge, n int) []api.Edge { return slices.Repeat([]api.Edge{e}, n) }
	for _, x := range []struct {
		nodes int
		edges []api.Edge
		dests []int
		errno api.Errno
	}{
		{1, edges(right, 48), make([]int, 16), api.OK},
		{1, edges(right, 49), nil, api.ErrLong},
		{1, nil, make([]int, 17), api.ErrLong},
		{0, edges(wrong, 49), []int{-1}, api.ErrLong},
		{0, edges(wrong, 1), make([]int, 17), api.ErrLong},
		{0, edges(wrong, 1), []int{-1}, api.ErrArg},
		{17, edges(wrong, 1), []int{-1}, api.ErrArg},
		{1, edges(wrong, 1), []int{-1}, api.ErrGraph},
		{1, append(edges(right, 47), wrong), nil, api.ErrGraph},
		{1, edges(right, 1), []int{0, 0, 1}, api.ErrArg},
		{1, edges(right, 1<<20), nil, api.ErrLong},
		{1, nil, make([]int, 1<<20), api.ErrLong},
		{16, nil, []int{15}, api.OK}, {16, nil, []int{16}, api.ErrArg}, {16, nil, []int{-1}, api.ErrArg},
		{16, nil, []int{least}, api.ErrArg}, {16, nil, []int{most}, api.ErrArg},
		{least, nil, nil, api.ErrArg}, {-1, nil, nil, api.ErrArg}, {0, nil, nil, api.ErrArg},
		{1, nil, nil, api.OK}, {16, nil, nil, api.OK}, {17, nil, nil, api.ErrArg}, {most, nil, nil, api.ErrArg},
	} {
		far, first, errno := rib.Shortest(x.nodes, x.edges, x.dests...)
		if errno != x.errno || errno != api.OK && (far != nil || first != nil) {
			t.Errorf("P8.6: Shortest(%d, %.100v, %.100v): %v, %v, %d; want %d", x.nodes, x.edges, x.dests, far, first, errno, x.errno)
		}
	}
}

// Each part of an edge by itself, around its bounds.
func TestEdgesThatMayNotBe(t *testing.T) {
	const least, most = -1 << 63, 1<<63 - 1
	for _, nodes := range []int{1, 2, 15, 16} {
		for _, node := range []int{least, -1, 0, nodes - 1, nodes, nodes + 1, most} {
			checkGraph(t, nodes, []api.Edge{{From: node, Cost: 1}}, 0)
			checkGraph(t, nodes, []api.Edge{{To: node, Cost: 1}}, 0)
		}
		for _, cost := range []int{least, -1, 0, 1, 9998, 9999, 10000, most} {
			checkGraph(t, nodes, []api.Edge{{From: nodes - 1, Cost: cost}}, 0)
		}
		for _, out := range []int{least, -1, 0, 1, 46, 47, 48, most} {
			checkGraph(t, nodes, []api.Edge{{From: nodes - 1, Cost: 1, Out: out}}, 0)
		}
	}
}

// All graphs of three nodes and up to three edges of cost 1 or 2, for all dests.
func TestAllSmallGraphs(t *testing.T) {
	var all []api.Edge
	for n := range 18 {
		all = append(all, api.Edge{From: n % 3, To: n / 3 % 3, Cost: 1 + n/9})
	}
	dests := [][]int{{}, {0}, {1}, {2}, {0, 1}, {2, 0}, {1, 2}, {0, 1, 2}, {1, 1}}
	eachList(all, 3, func(edges []api.Edge) {
		for _, d := range dests {
			checkGraph(t, 3, edges, d...)
		}
	})
}

func TestMixedGraphs(t *testing.T) {
	s := source(61)
	for n := range 20000 {
		nodes := 1 + n%16
		edges := s.edges(nodes, []int{nodes, 2 * nodes, 48}[s.below(3)])
		var dests []int
		for range s.below([]int{2, 3, 17}[s.below(3)]) {
			dests = append(dests, s.below(nodes))
		}
		checkGraph(t, nodes, edges[:min(len(edges), 48)], dests...)
	}
}

// A way over all nodes at the highest costs; one that gets shorter and shorter while it is open.
func TestLongWays(t *testing.T) {
	var chain []api.Edge
	far, first := make([]int, 16), make([]int, 16)
	for node := range 15 {
		chain = append(chain, api.Edge{From: node, To: node + 1, Cost: 9999, Out: node})
		far[node], first[node] = (15-node)*9999, node
	}
	first[15] = -1
	checkShortest(t, 16, chain, []int{15}, far, first, api.OK)
	// 15 is a node from which all others lead on to 0; the longer the way, the cheaper.
	var edges []api.Edge
	for node := 1; node < 15; node++ {
		edges = append(edges, api.Edge{From: node, To: node - 1, Cost: 1}, api.Edge{From: 15, To: node, Cost: 9000 - 500*node})
	}
	want := []int{0, 1, 2, 3, 4, 5, 6, 7, 8, 9, 10, 11, 12, 13, 14, 2014}
	for node := range first {
		first[node] = 2 * (node - 1)
	}
	first[0], first[15] = -1, 27
	checkShortest(t, 16, edges, []int{0}, want, first, api.OK)
}

// Of several edges that begin a shortest way: the first in the list, whatever its Out, its Cost and where it leads.
func TestTheFirstEdgeIsTold(t *testing.T) {
	edges := []api.Edge{{From: 0, To: 3, Cost: 4, Out: 9}, {From: 0, To: 2, Cost: 2, Out: 8}, {From: 0, To: 1, Cost: 1, Out: 7}, {From: 0, To: 3, Cost: 3, Out: 6}, {From: 1, To: 3, Cost: 2}, {From: 2, To: 3, Cost: 1}, {From: 2, To: 3, Cost: 1}}
	checkShortest(t, 4, edges, []int{3}, []int{3, 2, 1, 0}, []int{1, 4, 5, -1}, api.OK)
	slices.Reverse(edges)
	checkShortest(t, 4, edges, []int{3}, []int{3, 2, 1, 0}, []int{3, 2, 0, -1}, api.OK)
}

// An edge leads one way; one from a dest, or from a node to itself, begins no way that is told.
func TestWaysThatAreNone(t *testing.T) {
	edges := []api.Edge{{From: 0, To: 0, Cost: 1}, {From: 0, To: 1, Cost: 1}, {From: 1, To: 1, Cost: 1}}
	checkShortest(t, 2, edges, []int{0}, []int{0, -1}, []int{-1, -1}, api.OK)
	checkShortest(t, 2, edges, []int{1}, []int{1, 0}, []int{1, -1}, api.OK)
	checkShortest(t, 2, edges, []int{0, 1, 0}, []int{0, 0}, []int{-1, -1}, api.OK)
	checkShortest(t, 2, edges, nil, []int{-1, -1}, []int{-1, -1}, api.OK)
	// A loop that leads to no dest.
	round := []api.Edge{{From: 0, To: 1, Cost: 1}, {From: 1, To: 0, Cost: 1}}
	checkShortest(t, 3, round, []int{2}, []int{-1, -1, 0}, []int{-1, -1, -1}, api.OK)
}
