package step

import (
	"slices"

	"reach/api"
	"reach/tern"
)

// network is a valid network with its cubes read. It shares no list with what it was read from, and nothing changes it.
type network struct {
	ports  []api.Port
	tables [][]entry // by box
	guards [][]line  // by port
}

type entry struct {
	number    int
	ins, outs []int
	cubes     []tern.Cube
	write     tern.Cube
}

type line struct {
	permit bool
	cubes  []tern.Cube
}

// state is a packet at a port; its header is a cube without an x, so that a state can be compared and be a map's key.
type state struct {
	port   int
	header tern.Cube
}

func read(n api.Net) network {
	net := network{ports: slices.Clone(n.Ports)}
	number := 0
	for _, table := range n.Tables {
		var entries []entry
		for _, e := range table {
			entries = append(entries, entry{number, slices.Clone(e.Ins), slices.Clone(e.Outs), cubesOf(e.Cubes), cubeOf(e.Write)})
			number++
		}
		net.tables = append(net.tables, entries)
	}
	for _, guard := range n.Guards {
		var lines []line
		for _, l := range guard {
			lines = append(lines, line{l.Permit, cubesOf(l.Cubes)})
		}
		net.guards = append(net.guards, lines)
	}
	return net
}

func cubesOf(texts []string) []tern.Cube {
	var cubes []tern.Cube
	for _, text := range texts {
		cubes = append(cubes, cubeOf(text))
	}
	return cubes
}

// cubeOf needs no error: network and state have been looked at.
func cubeOf(text string) tern.Cube {
	c, _ := tern.Parse(text)
	return c
}

func stateOf(s api.State) state { return state{s.Port, cubeOf(s.Header)} }

// letsBy tells whether a port's guard lets the header by.
func (n network) letsBy(port int, header tern.Cube) bool {
	lines := n.guards[port]
	permit := len(lines) == 0
decide:
	for _, l := range lines {
		for _, c := range l.cubes {
			if header.Within(c) {
				permit = l.permit
				break decide
			}
		}
	}
	return permit
}

// fitting is the entry that fits a packet at an in-port.
func (n network) fitting(s state) (fits entry, some bool) {
search:
	for _, e := range n.tables[n.ports[s.port].Box] {
		if !slices.Contains(e.ins, s.port) {
			continue
		}
		for _, c := range e.cubes {
			if s.header.Within(c) {
				fits, some = e, true
				break search
			}
		}
	}
	return fits, some
}

// apply tells which entry is applied to a packet at an in-port (-1: none), and the states at the out-ports that let it by.
func (n network) apply(s state) (int, []state) {
	if !n.letsBy(s.port, s.header) {
		return -1, nil
	}
	e, some := n.fitting(s)
	if !some {
		return -1, nil
	}
	header := s.header.Write(e.write)
	var states []state
	for _, q := range e.outs {
		if n.letsBy(q, header) {
			states = append(states, state{q, header})
		}
	}
	return e.number, states
}

// next is apply at an in-port, with the states behind the links of the out-ports too; at an out-port the link alone.
func (n network) next(s state) (int, []state) {
	if !n.ports[s.port].In {
		return -1, n.over(s)
	}
	entry, outs := n.apply(s)
	var states []state
	for _, out := range outs {
		states = append(append(states, out), n.over(out)...)
	}
	return entry, states
}

// over is the state behind the link of an out-port, or nothing.
func (n network) over(s state) []state {
	if to := n.ports[s.port].To; to >= 0 {
		return []state{{to, s.header}}
	}
	return nil
}

// follow plays a packet along ports: the header, how many entries were applied; or the place of the first port that does not follow.
func (n network) follow(s state, ports []int) (string, int, api.Errno) {
	if len(ports) == 0 || ports[0] != s.port {
		return "", 0, api.ErrOff
	}
	applied := 0
	for at, port := range ports[1:] {
		states := n.over(s)
		if n.ports[s.port].In {
			_, states = n.apply(s)
			applied++
		}
		to := slices.IndexFunc(states, func(next state) bool { return next.port == port })
		if to < 0 {
			return "", at + 1, api.ErrOff
		}
		s = states[to]
	}
	return s.header.Text(), applied, api.OK
}
