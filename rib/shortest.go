package rib

import "reach/api"

// graphRefusal is why Shortest takes no such graph; OK, if it does.
func graphRefusal(nodes int, edges []api.Edge, dests []int) api.Errno {
	if len(edges) > api.MaxLinks || len(dests) > api.MaxBoxes {
		return api.ErrLong
	}
	if nodes < 1 || nodes > api.MaxBoxes {
		return api.ErrArg
	}
	for _, e := range edges {
		if !isBelow(e.From, nodes) || !isBelow(e.To, nodes) || e.Cost < 1 || e.Cost > api.MaxCost || !isBelow(e.Out, api.MaxPorts) {
			return api.ErrGraph
		}
	}
	for _, node := range dests {
		if !isBelow(node, nodes) {
			return api.ErrArg
		}
	}
	return api.OK
}

func isBelow(number, bound int) bool { return number >= 0 && number < bound }

// distances are the lengths of the shortest ways known as yet, by node; -1, where none is.
type distances []int

func (d distances) nearer(a, b int) bool { return d[a] < d[b] }

// search goes from the dests backwards along the edges.
type search struct {
	far  distances
	open heap[int] // the nodes that a way is known of and that are not settled
}

// come tells of a way from node to one of dests.
func (s *search) come(node, length int) {
	switch known := s.far[node]; {
	case known < 0:
		s.far[node] = length
		s.open.put(node)
	case length < known:
		s.far[node] = length
		s.open.hasten(node)
	}
}

// lengths are those of the shortest ways: the nearest open node is settled, since every other way from it leads over one that is no nearer.
func lengths(nodes int, edges []api.Edge, dests []int) []int {
	far := make(distances, nodes)
	for node := range far {
		far[node] = -1
	}
	s := search{far: far, open: heap[int]{ahead: far.nearer}}
	for _, node := range dests {
		s.come(node, 0)
	}
	for !s.open.empty() {
		settled := s.open.take()
		for _, e := range edges {
			if e.To == settled {
				s.come(e.From, far[settled]+e.Cost)
			}
		}
	}
	return far
}

// firstEdges are, by node, the first edges with which a shortest way begins, or -1. A cost is at least 1, so none begins at a dest.
func firstEdges(edges []api.Edge, far []int) []int {
	first := make([]int, len(far))
	for node := range first {
		first[node] = -1
	}
	for number, e := range edges {
		if first[e.From] < 0 && far[e.To] >= 0 && far[e.From] == e.Cost+far[e.To] {
			first[e.From] = number
		}
	}
	return first
}
