package xfer_test

// Networks in numbers by a source of mixed numbers, with guards on many ports and entries that hide one another.

import (
	"fmt"
	"strings"
	"testing"

	"reach/api"
	"reach/lower"
	"reach/space"
)

type source uint64

func (s *source) below(n int) int {
	*s = *s*6364136223846793005 + 1442695040888963407
	return int(uint64(*s) >> 33 % uint64(n))
}

// kind: what the networks of a trial are made of: so many bits and ports, at most so many entries a table and cubes a match; one of so many ports is guarded; so many tries; of digits each place of a cube has one.
type kind struct {
	bits, ports, entries, cubes, guarded, tries int
	digits                                      string
}

func (s *source) cube(k kind) string {
	var text strings.Builder
	for range k.bits {
		text.WriteByte(k.digits[s.below(len(k.digits))])
	}
	return text.String()
}

func (s *source) cubes(k kind) []string {
	var list []string
	for range s.below(k.cubes + 1) {
		list = append(list, s.cube(k))
	}
	return list
}

// net: a valid network; the ports of a box do not stand together, two out-ports may be linked to one in-port.
func (s *source) net(k kind) api.Net {
	n := api.Net{Bits: k.bits}
	boxes := 1 + s.below(1+k.ports/4)
	for at := range k.ports {
		n.Ports = append(n.Ports, api.Port{Name: fmt.Sprint("R.p", at), Box: s.below(boxes), In: s.below(2) == 0, To: -1})
		var lines []api.Guard
		for range s.below(4) * (1 / (1 + s.below(k.guarded))) {
			lines = append(lines, api.Guard{Permit: s.below(3) > 0, Cubes: s.cubes(k)})
		}
		n.Guards = append(n.Guards, lines)
	}
	for at, p := range n.Ports {
		if to := s.below(k.ports); !p.In && n.Ports[to].In {
			n.Ports[at].To = to
		}
	}
	for box := range boxes {
		n.Tables = append(n.Tables, nil)
		for range s.below(k.entries + 1) {
			n.Tables[box] = append(n.Tables[box], s.entry(k, n, box))
		}
	}
	return n
}

func (s *source) entry(k kind, n api.Net, box int) api.Entry {
	e := api.Entry{Cubes: s.cubes(k), Write: s.cube(k)}
	first := s.below(len(n.Ports))
	for at := range n.Ports {
		if p := n.Ports[at]; p.Box == box && p.In && s.below(4) > 0 {
			e.Ins = append(e.Ins, at)
		}
		at = (at + first) % len(n.Ports)
		if p := n.Ports[at]; p.Box == box && !p.In && s.below(3) > 0 && len(e.Outs) < api.MaxOuts {
			e.Outs = append(e.Outs, at)
		}
	}
	return e
}

// space: one of some terms less some cubes.
func (s *source) space(k kind) space.Space {
	var terms []string
	for range s.below(4) {
		terms = append(terms, strings.Join(append([]string{s.cube(k)}, s.cubes(k)...), "-"))
	}
	if terms == nil {
		terms = []string{"none"}
	}
	made, _ := space.Parse(k.bits, strings.Join(terms, "+"))
	return made
}

// small: all headers of it can be looked at.
func (s *source) small() kind {
	return kind{1 + s.below(5), 1 + s.below(9), 6, 3, 2, 1, "01xxx"}
}

// kinds: small widths, where all meets all; the borders of words; so many cubes that limits are passed, or nearly.
func kinds() []kind {
	return []kind{
		{1, 4, 4, 2, 2, 40, "01x"}, {2, 5, 4, 3, 2, 60, "01x"}, {3, 6, 5, 3, 2, 60, "01xx"}, {4, 8, 6, 4, 2, 60, "01xxx"}, {5, 12, 8, 4, 3, 40, "01xxxx"},
		{63, 6, 5, 4, 2, 6, "01" + x(26)}, {64, 6, 5, 4, 2, 6, "01" + x(26)}, {65, 6, 5, 4, 2, 6, "01" + x(26)}, {256, 6, 5, 4, 2, 8, "01" + x(120)},
		{8, 5, 6, 8, 2, 30, "01xxx"}, {10, 4, 8, 10, 3, 30, "01xx"}, {12, 3, 10, 12, 2, 40, "01xxx"}, {12, 4, 4, 48, 2, 80, "01x"}, {16, 4, 30, 6, 3, 20, "01xx"},
	}
}

func x(bits int) string { return strings.Repeat("x", bits) }

func checkIsNet(t *testing.T, n api.Net) {
	t.Helper()
	if errno := lower.Valid(n); errno != api.OK {
		t.Fatalf("no network: %d: %.3000v", errno, n)
	}
}

func TestTheSourceMakesNetworks(t *testing.T) {
	s := source(11)
	for range 50 {
		checkIsNet(t, s.net(s.small()))
		for _, k := range kinds() {
			checkIsNet(t, s.net(k))
			if made := s.space(k); made.Bits() != 0 && made.Bits() != k.bits {
				t.Fatalf("a space of %d bits for %v", made.Bits(), k)
			}
		}
	}
}
