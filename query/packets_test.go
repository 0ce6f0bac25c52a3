package query_test

// P13.8: what the spaces are, packet by packet, and P13.10: what is found can be played again.

import (
	"fmt"
	"slices"
	"testing"

	"reach/api"
	"reach/query"
	"reach/step"
	"reach/tern"
)

// along: the states of a packet on a path.
func (a asking) along(t *testing.T, s api.State, ports []int) []api.State {
	t.Helper()
	var states []api.State
	for end := range ports {
		header, _, errno := step.Follow(a.n, s, ports[:end+1])
		if errno != api.OK {
			t.Fatalf("Follow %v along %v in %v: %d", s, ports[:end+1], a, errno)
		}
		states = append(states, api.State{Port: ports[end], Header: header})
	}
	return states
}

// some: whether one of the whole paths of a packet is such a one.
func (a asking) some(s api.State, is func(p api.Path) bool) bool {
	for p := range step.Paths(a.n, s, a.hops) {
		if is(p) {
			return true
		}
	}
	return false
}

func (a asking) comes(s api.State) bool {
	return a.some(s, func(p api.Path) bool { return slices.Contains(p.Ports, a.to) })
}

func (a asking) comesBack(s api.State) bool {
	return a.some(s, func(p api.Path) bool {
		sorted := slices.Clone(p.Ports)
		slices.Sort(sorted)
		return len(slices.Compact(sorted)) < len(p.Ports)
	})
}

// isLost: only the end of a path may be such an in-port.
func (a asking) isLost(s api.State) bool {
	return a.some(s, func(p api.Path) bool {
		end := p.Ports[len(p.Ports)-1]
		_, states, _ := step.Next(a.n, api.State{Port: end, Header: p.Header})
		return a.n.Ports[end].In && len(states) == 0
	})
}

func (a asking) comesInto(t *testing.T, s api.State) bool {
	into := a.space(a.q.Space)
	return a.some(s, func(p api.Path) bool {
		return slices.ContainsFunc(a.along(t, s, p.Ports), func(at api.State) bool {
			return slices.Contains(a.q.Ports, at.Port) && into.Has(at.Header)
		})
	})
}

// checkSpace: the space of the answer has just those headers of where that are such ones.
func (a asking) checkSpace(t *testing.T, what string, answer api.Answer, where string, is func(s api.State) bool) {
	t.Helper()
	first := ""
	for h := range tern.All(a.n.Bits).Members() {
		want := a.space(where).Has(h) && is(api.State{Port: answer.Start, Header: h})
		if want && first == "" {
			first = h
		}
		if got := a.space(answer.Space).Has(h); got != want {
			t.Fatalf("P13.8: %s: %v: %s: %s is in it: %v", what, a, text(answer, api.OK), h, got)
		}
	}
	if answer.Found != (first != "") || answer.Witness != first {
		t.Fatalf("P13.8: %s: %v: %s; the least such header is %q", what, a, text(answer, api.OK), first)
	}
	if want := map[bool]api.Errno{true: api.OK, false: api.ErrReplay}[answer.Found]; query.Replay(a.n, answer) != want {
		t.Fatalf("P13.10: %s: %v: %s: Replay says %d", what, a, text(answer, api.OK), query.Replay(a.n, answer))
	}
}

// checkPath: the answer's path is that of a single packet.
func (a asking) checkPath(t *testing.T, what string, answer api.Answer, p api.Path, some bool, errno api.Errno) {
	t.Helper()
	got := fmt.Sprint(answer.Ports, answer.Entries, answer.Final)
	if !some || errno != api.OK || got != fmt.Sprint(p.Ports, p.Entries, p.Header) {
		t.Fatalf("P13.8: %s: %v: %s; the packet's path is %v, %v, %d", what, a, text(answer, api.OK), p, some, errno)
	}
}

// checkIsolate: no port ahead of Start has such a header, and Start has just those of the space.
func (a asking) checkIsolate(t *testing.T, answer api.Answer) {
	t.Helper()
	is := func(s api.State) bool { return a.comesInto(t, s) }
	for _, from := range a.p.Ports {
		if answer.Found && from == answer.Start {
			a.checkSpace(t, "Isolate", answer, a.p.Space, is)
			return
		}
		a.checkSpace(t, "Isolate, ahead of its Start", api.Answer{Start: from, Space: "none"}, a.p.Space, is)
	}
	if answer.Found || answer.Start != 0 {
		t.Fatalf("P13.7: %v: %s", a, text(answer, api.OK))
	}
}

// checkPackets: all answers by single packets; how many there are that are found.
func (a asking) checkPackets(t *testing.T, found map[string]int) {
	t.Helper()
	for what, answer := range a.answers() {
		w := api.State{Port: a.from, Header: answer.Witness}
		if answer.Found {
			found[what]++
		}
		switch what {
		case "Reach":
			a.checkSpace(t, what, answer, a.where, a.comes)
			if answer.Found {
				p, some, errno := step.Reach(a.n, w, a.to, a.hops)
				a.checkPath(t, what, answer, p, some, errno)
			}
		case "Missed":
			a.checkSpace(t, what, answer, a.where, func(s api.State) bool { return !a.comes(s) })
		case "Loop":
			a.checkSpace(t, what, answer, a.where, a.comesBack)
			if answer.Found {
				p, some, errno := step.Loop(a.n, w, a.hops)
				a.checkPath(t, what, answer, p, some, errno)
			}
		case "Lost":
			a.checkSpace(t, what, answer, a.where, a.isLost)
			if answer.Found {
				a.checkLostAt(t, answer)
			}
		case "Isolate":
			a.checkIsolate(t, answer)
			if answer.Found {
				a.checkEnd(t, answer)
			}
		}
	}
}

// checkLostAt: the path ends where the packet comes out nowhere.
func (a asking) checkLostAt(t *testing.T, answer api.Answer) {
	t.Helper()
	end := answer.Ports[len(answer.Ports)-1]
	_, states, errno := step.Next(a.n, api.State{Port: end, Header: answer.Final})
	if !a.n.Ports[end].In || len(states) > 0 || errno != api.OK {
		t.Fatalf("P13.6: %v: %s goes on to %v", a, text(answer, api.OK), states)
	}
}

// checkEnd: the path ends in q, and with the first port of its last step that is of q.
func (a asking) checkEnd(t *testing.T, answer api.Answer) {
	t.Helper()
	last := len(answer.Ports) - 1
	if !slices.Contains(a.q.Ports, answer.Ports[last]) || !a.space(a.q.Space).Has(answer.Final) {
		t.Fatalf("P13.7: %v: %s ends outside of q", a, text(answer, api.OK))
	}
	if last > 0 && !a.n.Ports[answer.Ports[last-1]].In && slices.Contains(a.q.Ports, answer.Ports[last-1]) {
		t.Fatalf("P13.7: %v: %s was in q ahead of that", a, text(answer, api.OK))
	}
}

func checkFound(t *testing.T, found map[string]int, least int) {
	t.Helper()
	for _, what := range []string{"Reach", "Missed", "Loop", "Lost", "Isolate"} {
		if found[what] < least {
			t.Errorf("the trial shows less than it should: %v", found)
		}
	}
}

func TestSpacesPacketByPacket(t *testing.T) {
	s := source(31)
	found := map[string]int{}
	for range 1200 {
		a := s.asking(s.small())
		a.hops, a.budget = s.below(7), api.MaxBudget
		a.checkPackets(t, found)
	}
	checkFound(t, found, 150)
}

func TestTheExamplePacketByPacket(t *testing.T) {
	found := map[string]int{}
	for _, n := range []api.Net{exampleNet(), lossyNet()} {
		for from := range 5 {
			for to := range 5 {
				for hops := range 6 {
					where := []string{"xx", "0x", "x1", "00+11", "xx-0x-1x", "xx-00"}[(from+to+hops)%6]
					asking{n, from, to, where, zone(where, from, to), zone("x1", (to+from)%5, to), hops, 50}.checkPackets(t, found)
				}
			}
		}
	}
	checkFound(t, found, 20)
}

// P0.4: with as many hops as ports the reply is the same for every greater number.
func TestLoopsAreFoundWithAsManyHopsAsPorts(t *testing.T) {
	s := source(32)
	tried := 0
	for tried < 300 {
		a := s.asking(s.small())
		with := func(hops int) string { return loop(a.n, a.from, a.where, hops, api.MaxBudget) }
		want := with(len(a.n.Ports))
		if want == "error 3" {
			continue
		}
		tried++
		for _, hops := range []int{len(a.n.Ports) + 1, len(a.n.Ports) + 2, api.MaxHops} {
			check(t, fmt.Sprint("P0.4: ", hops, " hops: ", a), with(hops), want)
		}
	}
}
