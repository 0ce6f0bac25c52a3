package query

import (
	"slices"

	"reach/api"
	"reach/space"
	"reach/tern"
	"reach/xfer"
)

// question is what Loop, Lost and Isolate differ in, flow by flow.
type question interface {
	// looksAt tells whether the flow has something to say.
	looksAt(f api.Flow) bool
	// takes is what the question takes of the origin of a flow that it looks at.
	takes(f api.Flow, origin space.Space) (space.Space, api.Errno)
	// isEnd tells whether a path is cut behind the last one of these ports.
	isEnd(ports []int) bool
}

// loop asks for the flows on which a port stands twice.
type loop struct{}

func (l loop) looksAt(f api.Flow) bool {
	for last := range f.Ports {
		if l.isEnd(f.Ports[:last+1]) {
			return true
		}
	}
	return false
}

func (l loop) takes(f api.Flow, origin space.Space) (space.Space, api.Errno) {
	return origin, api.OK
}

func (l loop) isEnd(ports []int) bool {
	last := len(ports) - 1
	return slices.Contains(ports[:last], ports[last])
}

// lost asks for what comes to an in-port and out of its box nowhere.
type lost struct {
	ports  []api.Port
	tables *xfer.Transfer
	gone   map[int]space.Space // by port, as far as flows end there: it is dear to make, and many end at one port
}

func (l lost) looksAt(f api.Flow) bool { return l.isEnd(f.Ports) }

func (l lost) takes(f api.Flow, origin space.Space) (space.Space, api.Errno) {
	gone, errno := l.goneAt(f.Ports[len(f.Ports)-1])
	if errno != api.OK {
		return space.Space{}, errno
	}
	return endingIn(gone, f, origin)
}

func (l lost) goneAt(port int) (space.Space, api.Errno) {
	if gone, ok := l.gone[port]; ok {
		return gone, api.OK
	}
	gone, errno := l.tables.Gone(port)
	l.gone[port] = gone
	return gone, errno
}

// Of the ports of one step the in-port is the last one: the path is not cut.
func (l lost) isEnd(ports []int) bool { return l.ports[ports[len(ports)-1]].In }

// isolate asks for what comes to one of the ports with a header of the space.
type isolate struct {
	goal
	into space.Space
}

func (i isolate) looksAt(f api.Flow) bool {
	return slices.ContainsFunc(f.Ports[len(f.Ports)-f.New:], i.has)
}

func (i isolate) takes(f api.Flow, origin space.Space) (space.Space, api.Errno) {
	return endingIn(i.into, f, origin)
}

// goal is the ports to come to.
type goal []int

func (g goal) has(port int) bool { return slices.Contains(g, port) }

func (g goal) isEnd(ports []int) bool { return g.has(ports[len(ports)-1]) }

// endingIn are those of the origin that are in the space at the end of the flow.
func endingIn(s space.Space, f api.Flow, origin space.Space) (space.Space, api.Errno) {
	write, _ := tern.Parse(f.Write)
	before, errno := s.Before(write)
	if errno != api.OK {
		return space.Space{}, errno
	}
	return origin.Meet(before)
}
