package cover

import (
	"slices"

	"reach/api"
	"reach/tern"
	"reach/xfer"
)

// metBy is which entries a packet meets within hops, rising. It is played state by state, each once: where it comes again it has no more hops left than before, and meets nothing new.
func (t tables) metBy(first api.State, hops int) []int {
	var entries []int
	came := map[api.State]int{first: 1}
	now := []api.State{first}
	for range hops {
		var next []api.State
		for _, s := range now {
			entry := t.entryFor(s)
			if entry < 0 {
				continue
			}
			entries = append(entries, entry)
			for _, on := range t.onward(s, entry) {
				came[on]++
				if came[on] == 1 {
					next = append(next, on)
				}
			}
		}
		now = next
	}
	slices.Sort(entries)
	return slices.Compact(entries)
}

// entryFor is the entry that is applied to a packet at an in-port, or -1: no header is in the space of two.
func (t tables) entryFor(s api.State) int {
	hits := t.hits[s.Port]
	at := slices.IndexFunc(hits, func(h xfer.Part) bool { return h.Space.Has(s.Header) })
	if at < 0 {
		return -1
	}
	return hits[at].Entry
}

// onward is where the packet is behind the links of the out-ports at which it comes out by this entry.
func (t tables) onward(s api.State, entry int) []api.State {
	var states []api.State
	for _, p := range t.parts[s.Port] {
		if p.Entry == entry && p.To >= 0 && p.Space.Has(s.Header) {
			states = append(states, api.State{Port: p.To, Header: written(s.Header, p.Write)})
		}
	}
	return states
}

// written is what a rewriting word makes of a header. Both are known to be cubes.
func written(header, word string) string {
	h, _ := tern.Parse(header)
	w, _ := tern.Parse(word)
	return h.Write(w).Text()
}
