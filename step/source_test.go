package step_test

// Networks in numbers by a source of mixed numbers, such that packets get far in them.

import (
	"fmt"
	"strings"
	"testing"

	"reach/api"
	"reach/lower"
)

type source uint64

func (s *source) below(n int) int {
	*s = *s*6364136223846793005 + 1442695040888963407
	return int(uint64(*s) >> 33 % uint64(n))
}

func mixed[T any](s *source, list []T) []T {
	out := append([]T(nil), list...)
	for n := range out {
		to := n + s.below(len(out)-n)
		out[n], out[to] = out[to], out[n]
	}
	return out
}

// cube: one of mostly x.
func (s *source) cube(bits int) string {
	var text strings.Builder
	for range bits {
		text.WriteByte("01xxxxxx"[s.below(8)])
	}
	return text.String()
}

func (s *source) cubes(bits, most int) []string {
	var list []string
	for range s.below(most + 1) {
		list = append(list, s.cube(bits))
	}
	return list
}

func (s *source) header(bits int) string {
	var text strings.Builder
	for range bits {
		text.WriteByte("01"[s.below(2)])
	}
	return text.String()
}

// net: a valid network of so many bits and ports; the ports of a box do not stand together, two out-ports may be linked to one in-port.
func (s *source) net(bits, ports int) api.Net {
	n := api.Net{Bits: bits}
	boxes := 1 + s.below(min(16, 4+ports/3))
	for at := range ports {
		n.Ports = append(n.Ports, api.Port{Name: fmt.Sprint("R.p", at), Box: s.below(boxes), In: s.below(5) < 2, To: -1})
		n.Guards = append(n.Guards, s.guard(bits))
	}
	for at, p := range n.Ports {
		for range 3 {
			if to := s.below(ports); !p.In && n.Ports[to].In {
				n.Ports[at].To = to
			}
		}
	}
	for box := range boxes {
		n.Tables = append(n.Tables, nil)
		for range s.below(8) {
			n.Tables[box] = append(n.Tables[box], s.entry(n, box))
		}
	}
	return n
}

func (s *source) guard(bits int) []api.Guard {
	var lines []api.Guard
	if s.below(8) == 0 {
		for range 1 + s.below(3) {
			lines = append(lines, api.Guard{Permit: s.below(3) > 0, Cubes: s.cubes(bits, 3)})
		}
	}
	return lines
}

func (s *source) entry(n api.Net, box int) api.Entry {
	e := api.Entry{Cubes: s.cubes(n.Bits, 4), Write: s.cube(n.Bits)}
	var outs []int
	for at, p := range n.Ports {
		switch {
		case p.Box != box:
		case !p.In:
			outs = append(outs, at)
		case s.below(4) > 0:
			e.Ins = append(e.Ins, at)
		}
	}
	most := min(len(outs), 4)
	e.Outs = mixed(s, outs)[:max(s.below(most+1), s.below(most+1))]
	return e
}

func (s *source) small() api.Net { return s.net(1+s.below(5), 1+s.below(14)) }

func (s *source) state(n api.Net) api.State {
	return api.State{Port: s.below(len(n.Ports)), Header: s.header(n.Bits)}
}

func checkIsNet(t *testing.T, n api.Net) {
	t.Helper()
	if errno := lower.Valid(n); errno != api.OK {
		t.Fatalf("no network: %d: %.3000v", errno, n)
	}
}

func TestTheSourceMakesNetworks(t *testing.T) {
	s := source(10)
	for range 300 {
		checkIsNet(t, s.small())
		checkIsNet(t, s.net([]int{63, 64, 65, 255, 256}[s.below(5)], 1+s.below(48)))
	}
}
