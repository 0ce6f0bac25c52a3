package step

import (
	"slices"

	"reach/api"
	"reach/tern"
)

// way is a path as far as a packet has come on it. Ways that go on from one way have lists of their own.
type way struct {
	ports, entries []int
	header         tern.Cube
}

func alone(s state) way { return way{ports: []int{s.port}, header: s.header} }

// last is where the packet is.
func (w way) last() state { return state{w.ports[len(w.ports)-1], w.header} }

// to is the way on to a state, by entries, if some were applied.
func (w way) to(s state, entries ...int) way {
	return way{slices.Concat(w.ports, []int{s.port}), slices.Concat(w.entries, entries), s.header}
}

// closed tells whether the last port stands on the way already.
func (w way) closed() bool {
	end := len(w.ports) - 1
	return slices.Contains(w.ports[:end], w.ports[end])
}

func (w way) path() api.Path {
	return api.Path{Ports: slices.Clone(w.ports), Entries: slices.Clone(w.entries), Header: w.header.Text()}
}

// onward are the ways to the next out-ports, by one entry; none from an out-port, nor with as many entries as hops.
func (n network) onward(w way, hops int) []way {
	at := w.last()
	if !n.ports[at.port].In || len(w.entries) == hops {
		return nil
	}
	entry, states := n.apply(at)
	var ways []way
	for _, s := range states {
		ways = append(ways, w.to(s, entry))
	}
	return ways
}

// stages are the way itself and, if it ends at a linked out-port, that to the in-port behind.
func (n network) stages(w way) []way {
	ways := []way{w}
	for _, s := range n.over(w.last()) {
		ways = append(ways, w.to(s))
	}
	return ways
}

// walk hands on the whole paths that go on from a way, depth first; false, if it was told to stop.
func (n network) walk(w way, hops int, yield func(api.Path) bool) bool {
	stages := n.stages(w)
	w = stages[len(stages)-1]
	ways := n.onward(w, hops)
	for _, next := range ways {
		if !n.walk(next, hops, yield) {
			return false
		}
	}
	return len(ways) > 0 || yield(w.path())
}

// nearest searches state by state: what a packet does from a state on is the same whichever way it came, so the first way there is enough.
func (n network) nearest(s state, to, hops int) (api.Path, bool, api.Errno) {
	came := map[state]int{}
	there := func(w way) bool { return w.last().port == to }
	fresh := func(w way) bool {
		came[w.last()]++
		return came[w.last()] == 1
	}
	return n.search(alone(s), hops, there, fresh)
}

// circle searches path by path: whether a port stands twice hangs on the whole of it.
func (n network) circle(s state, hops int) (api.Path, bool, api.Errno) {
	closed := func(w way) bool { return w.closed() }
	every := func(way) bool { return true }
	return n.search(alone(s), hops, closed, every)
}

// search gathers ways to in-ports in the order in which they come, those that are to be kept, and goes on from each in this order; the first way that comes to its goal ends it.
func (n network) search(first way, hops int, goal, keep func(way) bool) (api.Path, bool, api.Errno) {
	var gathered []way
	coming := []way{first}
	for at := 0; ; at++ {
		for _, out := range coming {
			for _, w := range n.stages(out) {
				switch {
				case goal(w):
					return w.path(), true, api.OK
				case !n.ports[w.last().port].In || !keep(w):
				case len(gathered) == api.MaxStates:
					return api.Path{}, false, api.ErrBudget
				default:
					gathered = append(gathered, w)
				}
			}
		}
		if at == len(gathered) {
			return api.Path{}, false, api.OK
		}
		coming = n.onward(gathered[at], hops)
	}
}
