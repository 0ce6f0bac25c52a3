package delta_test

// Pairs of networks in numbers by a source of mixed numbers: of the same ports, with links that lead round in circles, guards, and entries that hide one another.

import (
	"fmt"
	"strings"
	"testing"

	"reach/api"
	"reach/lower"
	"reach/query"
	"reach/space"
)

type source uint64

func (s *source) below(n int) int {
	*s = *s*6364136223846793005 + 1442695040888963407
	return int(uint64(*s) >> 33 % uint64(n))
}

// kind: what the networks of a trial are made of: so many bits and ports, at most so many entries a table and cubes a match; one of so many ports is guarded; so many tries; of digits each place of a cube has one, of written each place of a rewriting word.
type kind struct {
	bits, ports, entries, cubes, guarded, tries int
	digits, written                             string
}

func (s *source) cube(bits int, digits string) string {
	var text strings.Builder
	for range bits {
		text.WriteByte(digits[s.below(len(digits))])
	}
	return text.String()
}

// cubes: at least so many.
func (s *source) cubes(k kind, least int) []string {
	var list []string
	for range least + s.below(k.cubes+1-least) {
		list = append(list, s.cube(k.bits, k.digits))
	}
	return list
}

// net: a valid network; the ports of a box do not stand together, two out-ports may be linked to one in-port, most are linked.
func (s *source) net(k kind) api.Net {
	n := api.Net{Bits: k.bits}
	boxes := 1 + s.below(1+k.ports/4)
	for at := range k.ports {
		n.Ports = append(n.Ports, api.Port{Name: fmt.Sprint("R.p", at), Box: s.below(boxes), In: s.below(5) < 2, To: -1})
		n.Guards = append(n.Guards, s.guard(k))
	}
	for at := range n.Ports {
		n.Ports[at].To = s.link(n, at)
	}
	for box := range boxes {
		n.Tables = append(n.Tables, s.table(k, n, box))
	}
	return n
}

func (s *source) guard(k kind) []api.Guard {
	var lines []api.Guard
	for range s.below(4) * (1 / (1 + s.below(k.guarded))) {
		lines = append(lines, api.Guard{Permit: s.below(3) > 0, Cubes: s.cubes(k, 0)})
	}
	return lines
}

func (s *source) link(n api.Net, at int) int {
	for range 3 {
		if to := s.below(len(n.Ports)); !n.Ports[at].In && n.Ports[to].In {
			return to
		}
	}
	return -1
}

func (s *source) table(k kind, n api.Net, box int) []api.Entry {
	var table []api.Entry
	for range s.below(k.entries + 1) {
		table = append(table, s.entry(k, n, box))
	}
	return table
}

func (s *source) entry(k kind, n api.Net, box int) api.Entry {
	e := api.Entry{Cubes: s.cubes(k, 1), Write: s.cube(k.bits, k.written)}
	first, outs := s.below(len(n.Ports)), s.below(api.MaxOuts+1)
	for at := range n.Ports {
		if p := n.Ports[at]; p.Box == box && p.In && s.below(5) > 0 {
			e.Ins = append(e.Ins, at)
		}
		at = (at + first) % len(n.Ports)
		if p := n.Ports[at]; p.Box == box && !p.In && s.below(3) > 0 && len(e.Outs) < outs {
			e.Outs = append(e.Outs, at)
		}
	}
	return e
}

// like: a network of the same ports, with up to four changes of the other parts, the number of boxes without ports among them.
func (s *source) like(k kind, n api.Net) api.Net {
	n = withSpare(n)
	for range s.below(5) {
		port, box := s.below(len(n.Ports)), s.below(len(n.Tables))
		switch s.below(5) {
		case 0:
			n.Guards[port] = s.guard(k)
		case 1:
			n.Ports[port].To = s.link(n, port)
		case 2, 3:
			n.Tables[box] = s.table(k, n, box)
		case 4:
			n.Tables = append(n.Tables, nil)
		}
	}
	return n
}

// from: the text of a space as it may be written, not always in its form.
func (s *source) from(k kind) string {
	if s.below(3) == 0 {
		return x(k.bits)
	}
	var terms []string
	for range s.below(4) {
		terms = append(terms, strings.Join(append([]string{s.cube(k.bits, k.digits)}, s.cubes(k, 0)...), "-"))
	}
	if terms == nil {
		return "none"
	}
	return strings.Join(terms, "+")
}

// asking: what Compare is asked.
type asking struct {
	a, b         api.Net
	from, to     int
	where        string
	hops, budget int
}

// asking: of some draws the first one where what comes there is not the same; else the last.
func (s *source) asking(k kind) asking {
	var a asking
	for range 8 {
		n := s.net(k)
		a = asking{n, s.like(k, n), s.below(k.ports), s.below(k.ports), s.from(k), s.below(9), []int{1 + s.below(40), 1 + s.below(300), api.MaxBudget}[s.below(3)]}
		for range 4 { // Most packets are put in at an in-port.
			if !n.Ports[a.from].In {
				a.from = s.below(k.ports)
			}
		}
		one, _ := query.Reach(a.a, a.from, a.to, a.where, a.hops, a.budget)
		other, _ := query.Reach(a.b, a.from, a.to, a.where, a.hops, a.budget)
		if one.Space != other.Space {
			break
		}
	}
	return a
}

func (a asking) String() string {
	return fmt.Sprintf("from %d to %d where %.300s, hops %d, budget %d in %.3000s and %.3000s", a.from, a.to, a.where, a.hops, a.budget, fmt.Sprint(a.a), fmt.Sprint(a.b))
}

func (a asking) compare() string {
	return compare(a.a, a.b, a.from, a.to, a.where, a.hops, a.budget)
}

// small: all headers of it can be looked at.
func (s *source) small() kind {
	return kind{1 + s.below(4), 1 + s.below(10), 5, 2, 4, 1, "01xxx", "01xxxxx"[:3+s.below(5)]}
}

// kinds: small widths, where all meets all; the borders of words; so many cubes that limits are passed, or nearly.
func kinds() []kind {
	return []kind{
		{1, 5, 3, 2, 3, 80, "01x", "01x"}, {2, 6, 4, 2, 3, 120, "01x", "01xx"}, {3, 8, 4, 2, 4, 160, "01xx", "01xxx"}, {4, 10, 5, 2, 4, 160, "01xxx", "01xxxx"}, {5, 16, 6, 3, 4, 80, "01xxxx", "x"},
		{63, 8, 4, 2, 3, 20, "01" + x(26), "01" + x(30)}, {64, 8, 4, 2, 3, 20, "01" + x(26), "01" + x(30)}, {65, 8, 4, 2, 3, 20, "01" + x(26), "01" + x(30)}, {256, 8, 4, 2, 3, 20, "01" + x(120), "01" + x(200)},
		{8, 12, 6, 3, 3, 60, "01xx", "01x"}, {10, 6, 8, 6, 3, 60, "01xx", "01xxx"}, {12, 5, 6, 8, 2, 60, "01xxx", "01xxx"}, {12, 4, 3, 32, 3, 60, "01x", "01xx"},
	}
}

func x(bits int) string { return strings.Repeat("x", bits) }

func TestTheSourceMakesNetworks(t *testing.T) {
	s := source(12)
	for range 15 {
		for _, k := range append(kinds(), s.small()) {
			a := s.asking(k)
			if lower.Valid(a.a) != api.OK || lower.Valid(a.b) != api.OK {
				t.Fatalf("no networks: %v", a)
			}
			if _, errno := space.Parse(k.bits, a.where); errno != api.OK && errno != api.ErrBudget {
				t.Fatalf("no space: %d", errno)
			}
		}
	}
}
