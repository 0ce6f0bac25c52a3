package cover_test

// Networks in numbers by a source of mixed numbers, with links that lead round in circles, guards, and entries that hide one another.

import (
	"fmt"
	"strings"
	"testing"

	"reach/api"
	"reach/lower"
	"reach/space"
	"reach/tern"
)

type source uint64

func (s *source) below(n int) int {
	*s = *s*6364136223846793005 + 1442695040888963407
	return int(uint64(*s) >> 33 % uint64(n))
}

// kind: what the networks of a trial are made of: so many bits and ports, at most so many entries a table and cubes a match; one of so many ports is guarded; so many tries; of digits each place of a cube has one, of written each place of a rewriting word.
type kind struct {
	bits, ports, entries, cubes, guarded, tries int
	digits, written                             string
}

func (s *source) cube(bits int, digits string) string {
	var text strings.Builder
	for range bits {
		text.WriteByte(digits[s.below(len(digits))])
	}
	return text.String()
}

// cubes: at least so many.
func (s *source) cubes(k kind, least int) []string {
	var list []string
	for range least + s.below(k.cubes+1-least) {
		list = append(list, s.cube(k.bits, k.digits))
	}
	return list
}

// net: a valid network; the ports of a box do not stand together, two out-ports may be linked to one in-port, most are linked.
func (s *source) net(k kind) api.Net {
	n := api.Net{Bits: k.bits}
	boxes := 1 + s.below(1+k.ports/4)
	for at := range k.ports {
		n.Ports = append(n.Ports, api.Port{Name: fmt.Sprint("R.p", at), Box: s.below(boxes), In: s.below(5) < 2, To: -1})
		var lines []api.Guard
		for range s.below(4) * (1 / (1 + s.below(k.guarded))) {
			lines = append(lines, api.Guard{Permit: s.below(3) > 0, Cubes: s.cubes(k, 0)})
		}
		n.Guards = append(n.Guards, lines)
	}
	for at, p := range n.Ports {
		for range 3 {
			if to := s.below(k.ports); !p.In && n.Ports[to].In {
				n.Ports[at].To = to
			}
		}
	}
	for box := range boxes {
		n.Tables = append(n.Tables, nil)
		for range s.below(k.entries + 1) {
			n.Tables[box] = append(n.Tables[box], s.entry(k, n, box))
		}
	}
	return n
}

func (s *source) entry(k kind, n api.Net, box int) api.Entry {
	e := api.Entry{Cubes: s.cubes(k, 1), Write: s.cube(k.bits, k.written)}
	first, outs := s.below(len(n.Ports)), s.below(api.MaxOuts+1)
	for at := range n.Ports {
		if p := n.Ports[at]; p.Box == box && p.In && s.below(5) > 0 {
			e.Ins = append(e.Ins, at)
		}
		at = (at + first) % len(n.Ports)
		if p := n.Ports[at]; p.Box == box && !p.In && s.below(3) > 0 && len(e.Outs) < outs {
			e.Outs = append(e.Outs, at)
		}
	}
	return e
}

// from: the text of a space as it may be written, not always in its form.
func (s *source) from(k kind) string {
	if s.below(3) == 0 {
		return x(k.bits)
	}
	var terms []string
	for range s.below(4) {
		terms = append(terms, strings.Join(append([]string{s.cube(k.bits, k.digits)}, s.cubes(k, 0)...), "-"))
	}
	if terms == nil {
		return "none"
	}
	return strings.Join(terms, "+")
}

// small: all headers of it can be looked at.
func (s *source) small() kind {
	return kind{1 + s.below(4), 1 + s.below(10), 5, 2, 4, 1, "01xxx", "01xxxxx"[:3+s.below(5)]}
}

// kinds: small widths, where all meets all; the borders of words; so many cubes that limits are passed, or nearly.
func kinds() []kind {
	return []kind{
		{1, 5, 3, 2, 3, 40, "01x", "01x"}, {2, 6, 4, 2, 3, 60, "01x", "01xx"}, {3, 8, 4, 2, 4, 80, "01xx", "01xxx"}, {4, 10, 5, 2, 4, 80, "01xxx", "01xxxx"}, {5, 16, 6, 3, 4, 40, "01xxxx", "x"},
		{63, 8, 4, 2, 3, 12, "01" + x(26), "01" + x(30)}, {64, 8, 4, 2, 3, 12, "01" + x(26), "01" + x(30)}, {65, 8, 4, 2, 3, 12, "01" + x(26), "01" + x(30)}, {256, 8, 4, 2, 3, 12, "01" + x(120), "01" + x(200)},
		{8, 12, 6, 3, 3, 40, "01xx", "01x"}, {10, 6, 8, 6, 3, 30, "01xx", "01xxx"}, {12, 5, 6, 8, 2, 30, "01xxx", "01xxx"}, {12, 4, 3, 32, 3, 30, "01x", "01xx"},
	}
}

func x(bits int) string { return strings.Repeat("x", bits) }

func cubeOf(text string) tern.Cube {
	c, _ := tern.Parse(text)
	return c
}

// read: a space that must be one.
func read(t *testing.T, bits int, text string) space.Space {
	t.Helper()
	s, errno := space.Parse(bits, text)
	if errno != api.OK {
		t.Fatalf("Parse(%d, %.60q) = %d", bits, text, errno)
	}
	return s
}

func checkIsNet(t *testing.T, n api.Net) {
	t.Helper()
	if errno := lower.Valid(n); errno != api.OK {
		t.Fatalf("no network: %d: %.3000s", errno, fmt.Sprint(n))
	}
}

func TestTheSourceMakesNetworks(t *testing.T) {
	s := source(12)
	for range 50 {
		for _, k := range append(kinds(), s.small()) {
			checkIsNet(t, s.net(k))
			if _, errno := space.Parse(k.bits, s.from(k)); errno != api.OK && errno != api.ErrBudget {
				t.Fatalf("no space: %d", errno)
			}
		}
	}
}
