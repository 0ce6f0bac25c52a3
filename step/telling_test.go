package step_test

// A second telling of chapter 10: headers and cubes as texts, place by place; every path that there is, with the out-ports that were chosen on it, and the one that is asked for picked among all.

import (
	"fmt"
	"slices"

	"reach/api"
)

func tellIn(cube, header string) bool {
	for at := range cube {
		if cube[at] != 'x' && cube[at] != header[at] {
			return false
		}
	}
	return true
}

func tellInOne(cubes []string, header string) bool {
	return slices.ContainsFunc(cubes, func(c string) bool { return tellIn(c, header) })
}

func tellOver(header, word string) string {
	out := []byte(header)
	for at := range word {
		if word[at] != 'x' {
			out[at] = word[at]
		}
	}
	return string(out)
}

// tellGuard: P10.2.
func tellGuard(lines []api.Guard, header string) bool {
	if len(lines) == 0 {
		return true
	}
	at := slices.IndexFunc(lines, func(l api.Guard) bool { return tellInOne(l.Cubes, header) })
	return at >= 0 && lines[at].Permit
}

// tellFits: the number of the entry that fits, and the entry.
func tellFits(n api.Net, s api.State) (int, api.Entry) {
	number := 0
	for box, table := range n.Tables {
		for _, e := range table {
			if box == n.Ports[s.Port].Box && slices.Contains(e.Ins, s.Port) && tellInOne(e.Cubes, s.Header) {
				return number, e
			}
			number++
		}
	}
	return -1, api.Entry{}
}

// tellNext: P10.3.
func tellNext(n api.Net, s api.State) (int, []api.State) {
	var states []api.State
	if !n.Ports[s.Port].In {
		if to := n.Ports[s.Port].To; to != -1 {
			states = append(states, api.State{Port: to, Header: s.Header})
		}
		return -1, states
	}
	if !tellGuard(n.Guards[s.Port], s.Header) {
		return -1, nil
	}
	number, e := tellFits(n, s)
	if number == -1 {
		return -1, nil
	}
	h := tellOver(s.Header, e.Write)
	for _, q := range e.Outs {
		if !tellGuard(n.Guards[q], h) {
			continue
		}
		states = append(states, api.State{Port: q, Header: h})
		if to := n.Ports[q].To; to != -1 {
			states = append(states, api.State{Port: to, Header: h})
		}
	}
	return number, states
}

// told is a path, which of the out-ports was chosen at each entry, and whether it is a whole one.
type told struct {
	api.Path
	chosen []int
	whole  bool
}

func (p told) on(port int, header string) told {
	return told{Path: api.Path{Ports: append(slices.Clone(p.Ports), port), Entries: slices.Clone(p.Entries), Header: header}, chosen: slices.Clone(p.chosen)}
}

func (p told) last() api.State { return api.State{Port: p.Ports[len(p.Ports)-1], Header: p.Header} }

// tellPaths: all paths with at most so many entries, to whatever port; those that a link goes on from too. Beyond a thousand or so it gives up.
func tellPaths(n api.Net, s api.State, hops int) (list []told, all bool) {
	open := []told{{Path: api.Path{Ports: []int{s.Port}, Header: s.Header}}}
	for len(open) > 0 && len(list) < 1500 {
		p := open[0]
		open = open[1:]
		number, states := tellNext(n, p.last())
		in := n.Ports[p.last().Port].In
		p.whole = len(states) == 0 || in && len(p.Entries) == hops
		list = append(list, p)
		if p.whole {
			continue
		}
		choice := 0
		for _, next := range states {
			if in && n.Ports[next.Port].In {
				continue // the link of the out-port told ahead of it goes there
			}
			q := p.on(next.Port, next.Header)
			if in {
				q.Entries = append(q.Entries, number)
				q.chosen = append(q.chosen, choice)
				choice++
			}
			open = append(open, q)
		}
	}
	return list, len(open) == 0
}

// tellWhole: P10.4.
func tellWhole(list []told) []api.Path {
	var whole []told
	for _, p := range list {
		if p.whole {
			whole = append(whole, p)
		}
	}
	slices.SortStableFunc(whole, func(a, b told) int { return slices.Compare(a.chosen, b.chosen) })
	var paths []api.Path
	for _, p := range whole {
		paths = append(paths, p.Path)
	}
	return paths
}

// tellFirst: of those paths that are asked for, the one with the fewest entries, of several the one with the earlier choices, of several the shorter one.
func tellFirst(list []told, asked func(p told) bool) (api.Path, bool) {
	var best []told
	for _, p := range list {
		if asked(p) {
			best = append(best, p)
		}
	}
	if len(best) == 0 {
		return api.Path{}, false
	}
	first := slices.MinFunc(best, func(a, b told) int {
		if len(a.Entries) != len(b.Entries) {
			return len(a.Entries) - len(b.Entries)
		}
		if by := slices.Compare(a.chosen, b.chosen); by != 0 {
			return by
		}
		return len(a.Ports) - len(b.Ports)
	})
	return first.Path, true
}

// tellReach: P10.5, where no budget is passed.
func tellReach(list []told, to int) (api.Path, bool) {
	return tellFirst(list, func(p told) bool { return p.last().Port == to })
}

// tellLoop: P10.6, where no budget is passed.
func tellLoop(list []told) (api.Path, bool) {
	return tellFirst(list, func(p told) bool {
		times := map[int]int{}
		for _, port := range p.Ports {
			times[port]++
		}
		return times[p.last().Port] == 2 && len(times) == len(p.Ports)-1
	})
}

// tellFollow: P10.7.
func tellFollow(n api.Net, s api.State, ports []int) (string, int, api.Errno) {
	applied := 0
	for at, port := range ports {
		if at == 0 && port != s.Port {
			return "", 0, api.ErrOff
		}
		if at == 0 {
			continue
		}
		_, states := tellNext(n, s)
		in := n.Ports[s.Port].In
		found := slices.IndexFunc(states, func(next api.State) bool { return next.Port == port && n.Ports[next.Port].In != in })
		if found < 0 {
			return "", at, api.ErrOff
		}
		if s = states[found]; in {
			applied++
		}
	}
	if len(ports) == 0 {
		return "", 0, api.ErrOff
	}
	return s.Header, applied, api.OK
}

func samePath(a, b api.Path) bool {
	return slices.Equal(a.Ports, b.Ports) && slices.Equal(a.Entries, b.Entries) && a.Header == b.Header
}

func everyHeader(bits int) []string {
	var list []string
	for value := range 1 << bits {
		list = append(list, fmt.Sprintf("%0*b", bits, value))
	}
	return list
}
