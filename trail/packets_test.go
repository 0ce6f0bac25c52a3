package trail_test

// P14.4, P14.5: what the spaces are, packet by packet; what is found can be played again.

import (
	"testing"

	"reach/api"
	"reach/query"
	"reach/step"
	"reach/tern"
)

// fewest: the fewest entries on a path of the packet that is such a one, and how many ports the shortest of these has; -1, if there is none.
func (a asking) fewest(s api.State, is func(ports []int) bool) (int, int) {
	entries, ports := -1, -1
	for p := range step.Paths(a.n, s, a.hops) {
		applied := 0
		for end := 1; end <= len(p.Ports); end++ {
			if end > 1 && a.n.Ports[p.Ports[end-2]].In {
				applied++
			}
			isLess := entries < 0 || applied < entries || applied == entries && end < ports
			if isLess && is(p.Ports[:end]) {
				entries, ports = applied, end
			}
		}
	}
	return entries, ports
}

// checkPackets: the answer's space has just those headers of where of which some path is such a one, and its path is one, with the fewest entries.
func (a asking) checkPackets(t *testing.T, what string, answer api.Answer, is func(ports []int) bool) {
	t.Helper()
	first := ""
	for h := range tern.All(a.n.Bits).Members() {
		entries, _ := a.fewest(api.State{Port: a.from, Header: h}, is)
		want := entries >= 0 && a.space(a.where).Has(h)
		if want && first == "" {
			first = h
		}
		if got := a.space(answer.Space).Has(h); got != want {
			t.Fatalf("%s: %v: %s: %s is in it: %v", what, a, text(answer, api.OK), h, got)
		}
	}
	if answer.Found != (first != "") || answer.Witness != first || answer.Start != a.from {
		t.Fatalf("%s: %v: %s; the least such header is %q", what, a, text(answer, api.OK), first)
	}
	if !answer.Found {
		return
	}
	if query.Replay(a.n, answer) != api.OK || !is(answer.Ports) {
		t.Fatalf("%s: %v: %s: no such path", what, a, text(answer, api.OK))
	}
	entries, _ := a.fewest(api.State{Port: a.from, Header: first}, is)
	if len(answer.Entries) != entries {
		t.Fatalf("%s: %v: %s; there is a path of %d entries", what, a, text(answer, api.OK), entries)
	}
	// Where the last step brought two ports the path ends with the first that will do.
	last := len(answer.Ports) - 1
	if last > 0 && !a.n.Ports[answer.Ports[last-1]].In && is(answer.Ports[:last]) {
		t.Fatalf("%s: %v: %s: it is one ahead of its last port", what, a, text(answer, api.OK))
	}
}

func TestSpacesPacketByPacket(t *testing.T) {
	s := source(31)
	found, none := 0, 0
	count := func(a api.Answer) {
		if a.Found {
			found++
		} else {
			none++
		}
	}
	for range 1200 {
		a := s.asking(s.small())
		a.hops, a.budget = s.below(7), api.MaxBudget
		if answer, errno := a.find(); errno == api.OK {
			count(answer)
			a.checkPackets(t, "P14.4", answer, a.found(t))
		}
		if answer, errno := a.avoid(); errno == api.OK {
			count(answer)
			a.checkPackets(t, "P14.5", answer, a.avoided(t))
		}
	}
	if found < 500 || none < 500 {
		t.Errorf("the trial shows less than it should: %d, %d", found, none)
	}
}

// Find with all paths to a port, and Avoid with no path of the pattern, are query.Reach.
func TestAllPathsToAPort(t *testing.T) {
	s := source(32)
	found := 0
	for range 800 {
		a := s.asking(s.small())
		a.pattern = ".* " + a.n.Ports[a.to].Name
		reach := text(query.Reach(a.n, a.from, a.to, a.where, a.hops, a.budget))
		check(t, "P14.4: "+a.String(), text(a.find()), reach)
		if answer, errno := a.avoid(); errno == api.OK && answer.Found {
			t.Fatalf("P14.5: %v: %s", a, text(answer, errno))
		}
		a.pattern = ""
		check(t, "P14.5: "+a.String(), text(a.avoid()), reach)
		if answer, _ := a.avoid(); answer.Found {
			found++
		}
	}
	if found < 100 {
		t.Errorf("the trial shows less than it should: %d", found)
	}
}
