package cover

import (
	"reach/api"
	"reach/flow"
	"reach/space"
	"reach/tern"
	"reach/xfer"
)

// tables is a network, and by port what its entries are applied to and what comes out where; an out-port has none of these.
type tables struct {
	net         api.Net
	hits, parts [][]xfer.Part
	known       map[ending][]meeting // those that were asked for: many flows may end alike
}

// ending is what the meetings of a flow hang on.
type ending struct {
	port          int
	origin, write string
}

// tablesOf is asked once a call: the spaces are dear to make, and the same for each door.
func tablesOf(n api.Net) (tables, api.Errno) {
	all, errno := xfer.New(n)
	if errno != api.OK {
		return tables{}, errno
	}
	t := tables{n, make([][]xfer.Part, len(n.Ports)), make([][]xfer.Part, len(n.Ports)), map[ending][]meeting{}}
	for port := range len(n.Ports) {
		if n.Ports[port].In {
			t.hits[port], _ = all.Hits(port)
			t.parts[port], _ = all.Parts(port)
		}
	}
	return t, api.OK
}

// meeting is an entry, and those headers at the door that meet it by one flow.
type meeting struct {
	entry int
	space space.Space
	least string // header of the space
}

// meetings are all those from a door, in their order.
func (t tables) meetings(door, hops, budget int) ([]meeting, api.Errno) {
	w, errno := flow.New(t.net, door, tern.All(t.net.Bits).Text(), hops, budget, false)
	if errno != api.OK {
		return nil, errno
	}
	var list []meeting
	for _, f := range w.All() {
		if len(f.Entries) == hops {
			continue
		}
		more, errno := t.meetingsAt(ending{f.Ports[len(f.Ports)-1], f.Origin, f.Write})
		if errno != api.OK {
			return nil, errno
		}
		list = append(list, more...)
	}
	return list, api.OK
}

// meetingsAt are those of a flow that ends so.
func (t tables) meetingsAt(end ending) ([]meeting, api.Errno) {
	if list, ok := t.known[end]; ok {
		return list, api.OK
	}
	// What a walk tells is a space, and a word.
	origin, _ := space.Parse(t.net.Bits, end.origin)
	write, _ := tern.Parse(end.write)
	var list []meeting
	for _, h := range t.hits[end.port] {
		// All of them have the network's width, and Before asks for nothing else.
		before, _ := h.Space.Before(write)
		start, errno := origin.Meet(before)
		if errno != api.OK {
			return nil, errno
		}
		// Least gives up just where Expand does.
		least, live, errno := start.Least(api.MaxSplit)
		if errno != api.OK {
			return nil, errno
		}
		if live {
			list = append(list, meeting{h.Entry, start, least})
		}
	}
	t.known[end] = list
	return list, api.OK
}
