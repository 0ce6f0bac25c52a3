package cover

import (
	"strings"

	"reach/api"
)

// candidate is a packet that may be chosen.
type candidate struct {
	door   int
	header string
	hits   []int
}

// candidates are the packets of all meetings from a door. Of equal ones the first is enough: no other is ever chosen.
func (t tables) candidates(door int, meetings []meeting, hops int) []candidate {
	var list []candidate
	seen := map[string]int{}
	for _, m := range meetings {
		seen[m.least]++
		if seen[m.least] == 1 {
			hits := t.metBy(api.State{Port: door, Header: m.least}, hops)
			list = append(list, candidate{door, m.least, hits})
		}
	}
	return list
}

// choose takes, as long as one of them meets an entry that is met by none yet, the candidate that meets the most of these. It tells too, by entry, how many of the chosen ones meet it.
func choose(all []candidate, entries int) ([]api.Packet, []int) {
	var packets []api.Packet
	met := make([]int, entries)
	fresh := func(c candidate) int {
		count := 0
		for _, e := range c.hits {
			if met[e] == 0 {
				count++
			}
		}
		return count
	}
	for {
		at := best(all, fresh)
		if at < 0 {
			return packets, met
		}
		for _, e := range all[at].hits {
			met[e]++
		}
		packets = append(packets, all[at].packet())
	}
}

// best is the place of the element that is worth the most, of several such the first; -1, if none is worth anything.
func best[T any](list []T, worth func(T) int) int {
	place, most := -1, 0
	for at, v := range list {
		if w := worth(v); w > most {
			place, most = at, w
		}
	}
	return place
}

// packet is what goes out of a candidate, in memory of its own: candidates from two doors may have one text between them.
func (c candidate) packet() api.Packet {
	hits := make([]int, len(c.hits))
	copy(hits, c.hits)
	return api.Packet{Port: c.door, Header: strings.Clone(c.header), Hits: hits}
}
