package flow_test

// P12.7 and P12.8: the flows are the paths of single packets.

import (
	"fmt"
	"slices"
	"testing"

	"reach/api"
	"reach/flow"
	"reach/space"
	"reach/step"
	"reach/tern"
)

func isDouble(ports []int) bool {
	sorted := slices.Clone(ports)
	slices.Sort(sorted)
	return len(slices.Compact(sorted)) < len(ports)
}

// cuts: the places in ports at which a path may be cut: behind the first ports, and behind those of each entry.
func (a walking) cuts(p api.Path) []int {
	end := len(a.behind(a.start))
	list := []int{end}
	for range p.Entries {
		end += len(a.behind(p.Ports[end]))
		list = append(list, end)
	}
	return list
}

// paths: all paths of a header, those that go on too, told by their ports and entries, with the header at the end.
func (a walking) paths(t *testing.T, header string) map[string]string {
	t.Helper()
	s := api.State{Port: a.start, Header: header}
	found := map[string]string{}
	for p := range step.Paths(a.n, s, a.hops) {
		for k, end := range a.cuts(p) {
			last, applied, errno := step.Follow(a.n, s, p.Ports[:end])
			if errno != api.OK || applied != k {
				t.Fatalf("Follow %v: %d, %d", p, applied, errno)
			}
			found[fmt.Sprint(p.Ports[:end], p.Entries[:k])] = last
			if a.stop && isDouble(p.Ports[:end]) {
				break
			}
		}
	}
	return found
}

func (a walking) checkPaths(t *testing.T, w *flow.Walk) {
	t.Helper()
	from := read(t, a.n.Bits, a.from)
	for header := range tern.All(a.n.Bits).Members() {
		paths := map[string]string{}
		if from.Has(header) {
			paths = a.paths(t, header)
		}
		met := 0
		for i, f := range w.All() {
			if !read(t, a.n.Bits, f.Origin).Has(header) {
				continue
			}
			met++
			last, ok := paths[fmt.Sprint(f.Ports, f.Entries)]
			if !ok || cubeOf(header).Write(cubeOf(f.Write)).Text() != last {
				t.Fatalf("P12.7: %v: %s is in the flow %d: %s; its paths are %v", a, header, i, flowText(f), paths)
			}
		}
		// No two flows have one and the same ports and entries: see checkFlows.
		if met != len(paths) {
			t.Fatalf("P12.7: %v: %s is in %d flows of %s; its paths are %v", a, header, met, walkText(w), paths)
		}
	}
}

// checkFlows: P12.8, and the order of the flows.
func (a walking) checkFlows(t *testing.T, w *flow.Walk) {
	t.Helper()
	seen := map[string]bool{}
	var flows []api.Flow
	for i, f := range w.All() {
		key := fmt.Sprint(f.Ports, f.Entries)
		if seen[key] || len(f.Entries) > a.hops || i != len(flows) {
			t.Fatalf("P12.8: %v: flow %d: %s", a, i, flowText(f))
		}
		seen[key] = true
		if (f.Parent < 0) != (i == 0) || f.Parent >= i {
			t.Fatalf("P12.2: %v: the parent of flow %d: %s", a, i, flowText(f))
		}
		flows = append(flows, f)
		if i == 0 {
			continue
		}
		from, before := flows[f.Parent], flows[i-1]
		if len(before.Entries) > len(f.Entries) || len(before.Entries) == len(f.Entries) && before.Parent > f.Parent {
			t.Fatalf("P12.2: %v: flow %d stands behind %s: %s", a, i, flowText(before), flowText(f))
		}
		if !slices.Equal(from.Ports, f.Ports[:len(f.Ports)-f.New]) || !slices.Equal(from.Entries, f.Entries[:len(f.Entries)-1]) {
			t.Fatalf("P12.2: %v: flow %d goes on from %s: %s", a, i, flowText(from), flowText(f))
		}
		a.checkWithin(t, f, from)
	}
}

func (a walking) checkWithin(t *testing.T, f, from api.Flow) {
	t.Helper()
	mine, parents := read(t, a.n.Bits, f.Origin), read(t, a.n.Bits, from.Origin)
	both, errno := mine.Meet(parents)
	if errno != api.OK {
		return
	}
	if within, errno := mine.Within(both, api.MaxSplit); errno == api.OK && !within {
		t.Fatalf("P12.8: %v: %s was not all there before: %s", a, flowText(f), flowText(from))
	}
	if a.n.Bits > 5 {
		return
	}
	for h := range tern.All(a.n.Bits).Members() {
		if mine.Has(h) && !parents.Has(h) {
			t.Fatalf("P12.8: %v: %s was not there before: %s, %s", a, h, flowText(f), flowText(from))
		}
	}
}

func TestTheFlowsAreThePaths(t *testing.T) {
	s := source(31)
	deep, doubles := 0, 0
	for range 1500 {
		a := s.walking(s.small())
		a.hops, a.budget = s.below(7), api.MaxBudget
		w, errno := flow.New(a.n, a.start, a.from, a.hops, a.budget, a.stop)
		if errno != api.OK {
			continue
		}
		a.checkPaths(t, w)
		a.checkFlows(t, w)
		for _, f := range w.All() {
			if len(f.Entries) > 3 {
				deep++
			}
			if isDouble(f.Ports) {
				doubles++
			}
		}
	}
	if deep < 500 || doubles < 500 {
		t.Errorf("the trial shows less than it should: %d flows of more than 3 entries, %d with a port twice", deep, doubles)
	}
}

func TestPathsOfTheExample(t *testing.T) {
	for start := range 5 {
		for _, from := range []string{"none", "xx", "0x", "x1", "1x-11", "00+11", "xx-0x-1x", "xx-00"} {
			for hops := range 8 {
				for _, stop := range []bool{false, true} {
					a := walking{exampleNet(), start, from, hops, 50, stop}
					w := walked(t, a.n, start, from, hops, 50, stop)
					a.checkPaths(t, w)
					a.checkFlows(t, w)
				}
			}
		}
	}
}

func TestFlowsOfWideNetworks(t *testing.T) {
	s := source(32)
	for _, k := range kinds() {
		for range k.tries {
			a := s.walking(k)
			if _, errno := space.Parse(k.bits, a.from); errno != api.OK {
				continue
			}
			if w, errno := flow.New(a.n, a.start, a.from, a.hops, a.budget, a.stop); errno == api.OK {
				a.checkFlows(t, w)
			}
		}
	}
}
