package delta_test

// A second telling of P16.2, from what query.Reach tells of each network alone; and P0.12, packet by packet.

import (
	"fmt"
	"slices"
	"strings"
	"testing"

	"reach/api"
	"reach/delta"
	"reach/query"
	"reach/space"
	"reach/step"
	"reach/tern"
)

// told: what is to be answered. All arguments are as they should be.
func (a asking) told() string {
	var spaces []space.Space
	for _, n := range []api.Net{a.a, a.b} {
		answer, errno := query.Reach(n, a.from, a.to, a.where, a.hops, a.budget)
		if errno != api.OK {
			return fmt.Sprint("error ", errno)
		}
		s, _ := space.Parse(n.Bits, answer.Space)
		spaces = append(spaces, s)
	}
	gained, errno := a.tellOnly(a.b, spaces[1], spaces[0])
	if errno != api.OK {
		return fmt.Sprint("error ", errno)
	}
	lost, errno := a.tellOnly(a.a, spaces[0], spaces[1])
	if errno != api.OK {
		return fmt.Sprint("error ", errno)
	}
	return gained + "; " + lost
}

func (a asking) tellOnly(n api.Net, here, there space.Space) (string, api.Errno) {
	rest, errno := here.Minus(there)
	if errno != api.OK {
		return "", errno
	}
	cubes, errno := rest.Expand(api.MaxSplit)
	if errno != api.OK {
		return "", errno
	}
	var headers []string
	for _, c := range cubes {
		headers = append(headers, strings.ReplaceAll(c.Text(), "x", "0"))
	}
	if len(headers) == 0 {
		return fmt.Sprint("none from ", a.from), api.OK
	}
	least := slices.Min(headers)
	answer, errno := query.Reach(n, a.from, a.to, least, a.hops, a.budget)
	return fmt.Sprint(rest.Text(), " from ", a.from, ": ", least, " ", answer.Ports, answer.Entries, " ", answer.Final), errno
}

func TestCompareIsTold(t *testing.T) {
	s := source(21)
	seen := map[string]int{}
	for _, k := range kinds() {
		for range k.tries {
			a := s.asking(k)
			got, want := a.compare(), a.told()
			check(t, fmt.Sprint("P16.2: ", a), got, want)
			gained, lost, _ := strings.Cut(want, "; ")
			switch {
			case lost == "":
				seen["refused"]++
			case strings.HasPrefix(gained, "none ") && strings.HasPrefix(lost, "none "):
				seen["none"]++
			case strings.HasPrefix(gained, "none "):
				seen["lost"]++
			case strings.HasPrefix(lost, "none "):
				seen["gained"]++
			default:
				seen["both"]++
			}
		}
	}
	for _, what := range []string{"refused", "none", "lost", "gained", "both"} {
		if seen[what] < 20 {
			t.Errorf("the trial shows less than it should: %v", seen)
		}
	}
}

// comes: whether some path of a packet comes to the port.
func (a asking) comes(n api.Net, header string) bool {
	for p := range step.Paths(n, api.State{Port: a.from, Header: header}, a.hops) {
		if slices.Contains(p.Ports, a.to) {
			return true
		}
	}
	return false
}

// checkOnly: the answer has just those headers of where that come there in the network n and not in the other one; its path is that of its least one there.
func (a asking) checkOnly(t *testing.T, what string, answer api.Answer, n, other api.Net) {
	t.Helper()
	where, _ := space.Parse(n.Bits, a.where)
	s, errno := space.Parse(n.Bits, answer.Space)
	if errno != api.OK {
		t.Fatalf("P16.2: %s: %v: %s", what, a, tell(answer))
	}
	first := ""
	for h := range tern.All(n.Bits).Members() {
		want := where.Has(h) && a.comes(n, h) && !a.comes(other, h)
		if want && first == "" {
			first = h
		}
		if s.Has(h) != want {
			t.Fatalf("P0.12: %s: %v: %s: %s is in it: %v", what, a, tell(answer), h, !want)
		}
	}
	if answer.Start != a.from || answer.Found != (first != "") || answer.Witness != first {
		t.Fatalf("P16.2: %s: %v: %s; the least such header is %q", what, a, tell(answer), first)
	}
	if !answer.Found {
		check(t, "P16.2", tell(answer), fmt.Sprint("none from ", a.from))
		return
	}
	p, some, errno := step.Reach(n, api.State{Port: a.from, Header: first}, a.to, a.hops)
	if got := fmt.Sprint(answer.Ports, answer.Entries, answer.Final); !some || errno != api.OK || got != fmt.Sprint(p.Ports, p.Entries, p.Header) {
		t.Fatalf("P16.2: %s: %v: %s; the packet's path is %v", what, a, tell(answer), p)
	}
	if errno := query.Replay(n, answer); errno != api.OK {
		t.Fatalf("P16.2: %s: %v: %s: Replay says %d", what, a, tell(answer), errno)
	}
}

func TestComparePacketByPacket(t *testing.T) {
	s := source(31)
	found := [2]int{}
	for range 1500 {
		a := s.asking(s.small())
		a.hops, a.budget = s.below(7), api.MaxBudget
		d, errno := delta.Compare(a.a, a.b, a.from, a.to, a.where, a.hops, a.budget)
		if errno != api.OK {
			continue
		}
		a.checkOnly(t, "gained", d.Gained, a.b, a.a)
		a.checkOnly(t, "lost", d.Lost, a.a, a.b)
		for at, answer := range []api.Answer{d.Gained, d.Lost} {
			if answer.Found {
				found[at]++
			}
		}
	}
	if min(found[0], found[1]) < 50 {
		t.Errorf("the trial shows less than it should: %v", found)
	}
}

// What is gained one way is lost the other way.
func TestCompareTheOtherWayRound(t *testing.T) {
	s := source(41)
	for range 400 {
		a := s.asking(s.small())
		there, errno := delta.Compare(a.a, a.b, a.from, a.to, a.where, a.hops, a.budget)
		back, other := delta.Compare(a.b, a.a, a.from, a.to, a.where, a.hops, a.budget)
		check(t, fmt.Sprint("P16.2: ", a), text(api.Delta{Gained: back.Lost, Lost: back.Gained}, other), text(there, errno))
		// A network beside itself, the very same lists too.
		same := text(delta.Compare(a.a, a.a, a.from, a.to, a.where, a.hops, a.budget))
		if errno == api.OK && same != fmt.Sprintf("none from %d; none from %d", a.from, a.from) {
			t.Fatalf("P16.2: %v: %s", a, same)
		}
	}
}
