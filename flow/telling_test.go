package flow_test

// A second telling of chapter 12: whole flows as plain data, level by level, each space read anew from its text.

import (
	"fmt"
	"slices"
	"strings"
	"testing"

	"reach/api"
	"reach/flow"
	"reach/space"
	"reach/tern"
	"reach/xfer"
)

// walking: what a walk is asked for.
type walking struct {
	n            api.Net
	start        int
	from         string
	hops, budget int
	stop         bool
}

func (a walking) String() string {
	return fmt.Sprintf("start %d, from %.300s, hops %d, budget %d, stop %v in %.3000s", a.start, a.from, a.hops, a.budget, a.stop, fmt.Sprint(a.n))
}

// behind: a port and the one behind its link.
func (a walking) behind(port int) []int {
	if to := a.n.Ports[port].To; to >= 0 {
		return []int{port, to}
	}
	return []int{port}
}

func (a walking) size(f api.Flow) int {
	s, _ := space.Parse(a.n.Bits, f.Origin)
	return s.Size()
}

// goesOn: whether there may be a next flow.
func (a walking) goesOn(f api.Flow) bool {
	if a.stop {
		ports := slices.Clone(f.Ports)
		slices.Sort(ports)
		if len(slices.Compact(ports)) < len(f.Ports) {
			return false
		}
	}
	return a.n.Ports[f.Ports[len(f.Ports)-1]].In && len(f.Entries) < a.hops
}

// next: the flow that goes on by a part, and whether it is live.
func (a walking) next(number int, f api.Flow, p xfer.Part) (api.Flow, bool, api.Errno) {
	origin, _ := space.Parse(a.n.Bits, f.Origin)
	before, _ := p.Space.Before(cubeOf(f.Write))
	before, _ = space.Parse(a.n.Bits, before.Text())
	met, errno := origin.Meet(before)
	if errno != api.OK {
		return api.Flow{}, false, errno
	}
	cubes, errno := met.Expand(api.MaxSplit)
	ports := a.behind(p.Out)
	return api.Flow{
		Ports: slices.Concat(f.Ports, ports), Entries: slices.Concat(f.Entries, []int{p.Entry}), New: len(ports), Parent: number,
		Origin: met.Text(), Write: cubeOf(f.Write).Write(cubeOf(p.Write)).Text(),
	}, len(cubes) > 0, errno
}

// tell: the live flows, or ErrBudget. All else is as it should be.
func (a walking) tell() ([]api.Flow, api.Errno) {
	f, errno := xfer.New(a.n)
	if errno != api.OK {
		return nil, errno
	}
	origin, _ := space.Parse(a.n.Bits, a.from)
	cubes, errno := origin.Expand(api.MaxSplit)
	if errno != api.OK {
		return nil, errno
	}
	var all, level []api.Flow
	if len(cubes) > 0 {
		ports := a.behind(a.start)
		level = []api.Flow{{Ports: ports, New: len(ports), Parent: -1, Origin: origin.Text(), Write: x(a.n.Bits)}}
	}
	sum := 0
	for len(level) > 0 {
		first := len(all)
		for _, f := range level {
			sum += a.size(f)
		}
		if sum > a.budget {
			return nil, api.ErrBudget
		}
		all = append(all, level...)
		if level, errno = a.nextLevel(f, first, level); errno != api.OK {
			return nil, errno
		}
	}
	return all, api.OK
}

// nextLevel: the live flows with one entry more; those of the level are numbered from first on.
func (a walking) nextLevel(f *xfer.Transfer, first int, level []api.Flow) ([]api.Flow, api.Errno) {
	var next []api.Flow
	for at, from := range level {
		if !a.goesOn(from) {
			continue
		}
		parts, _ := f.Parts(from.Ports[len(from.Ports)-1])
		for _, p := range parts {
			made, live, errno := a.next(first+at, from, p)
			if errno != api.OK {
				return nil, errno
			}
			if live {
				next = append(next, made)
			}
		}
	}
	return next, api.OK
}

func isNew(f api.Flow, port int) bool {
	return slices.Contains(f.Ports[len(f.Ports)-f.New:], port)
}

func (a walking) at(flows []api.Flow, port int) (string, api.Errno) {
	all := space.None(a.n.Bits)
	for _, f := range flows {
		if !isNew(f, port) {
			continue
		}
		origin, _ := space.Parse(a.n.Bits, f.Origin)
		var errno api.Errno
		if all, errno = all.Join(origin); errno != api.OK {
			return "", errno
		}
	}
	return all.Text(), api.OK
}

func (a walking) first(flows []api.Flow, port int, header string) int {
	return slices.IndexFunc(flows, func(f api.Flow) bool {
		origin, _ := space.Parse(a.n.Bits, f.Origin)
		return isNew(f, port) && origin.Has(header)
	})
}

// headers: some headers of the width.
func (a walking) headers(s *source) []string {
	if a.n.Bits < 5 {
		return slices.Collect(tern.All(a.n.Bits).Members())
	}
	origin, _ := space.Parse(a.n.Bits, a.from)
	list := []string{s.cube(a.n.Bits, "01"), s.cube(a.n.Bits, "01")}
	for c := range origin.Cubes() {
		list = append(list, strings.ReplaceAll(c.Text(), "x", "0"), strings.ReplaceAll(c.Text(), "x", "1"))
		if len(list) > 8 {
			break
		}
	}
	return list
}

// check: whether New answers as it is told, and the walk's calls.
func (a walking) check(t *testing.T, s *source) api.Errno {
	t.Helper()
	flows, want := a.tell()
	w, errno := flow.New(a.n, a.start, a.from, a.hops, a.budget, a.stop)
	if errno != want || (w == nil) != (want != api.OK) {
		t.Fatalf("P12.1: %v: %d; want %d", a, errno, want)
	}
	if want != api.OK {
		return want
	}
	sum := 0
	var lines []string
	for i, f := range flows {
		lines = append(lines, fmt.Sprint(i, ": ", flowText(f)))
		sum += a.size(f)
	}
	if got := walkText(w); got != strings.Join(lines, "\n") {
		t.Fatalf("P12.2: %v:\n%s\nwant\n%s", a, got, strings.Join(lines, "\n"))
	}
	if w.Size() != sum {
		t.Fatalf("P12.3: %v: %d; want %d", a, w.Size(), sum)
	}
	for port := range a.n.Ports {
		text, errno := w.At(port)
		if wantText, want := a.at(flows, port); text != wantText || errno != want {
			t.Fatalf("P12.4: At(%d) of %v: %q, %d; want %q, %d", port, a, text, errno, wantText, want)
		}
		for _, h := range a.headers(s) {
			i, f := w.First(port, h)
			wantFlow, want := api.Flow{}, a.first(flows, port, h)
			if want >= 0 {
				wantFlow = flows[want]
			}
			if i != want || flowText(f) != flowText(wantFlow) {
				t.Fatalf("P12.5: First(%d, %s) of %v: %d, %s; want %d, %s", port, h, a, i, flowText(f), want, flowText(wantFlow))
			}
		}
	}
	return api.OK
}

// walking: some walk in some network.
func (s *source) walking(k kind) walking {
	a := walking{n: s.net(k), from: s.from(k), start: s.below(k.ports), hops: s.below(8), budget: 1 + s.below(60), stop: s.below(2) == 0}
	switch s.below(4) {
	case 0:
		a.budget = api.MaxBudget
	case 1:
		a.hops = s.below(api.MaxHops + 1)
	}
	return a
}

func TestWalksAsTheyAreTold(t *testing.T) {
	s := source(21)
	met := map[api.Errno]int{}
	for _, k := range kinds() {
		for range k.tries * 4 {
			a := s.walking(k)
			if _, errno := space.Parse(k.bits, a.from); errno == api.OK {
				met[a.check(t, &s)]++
			}
		}
	}
	for range 1200 {
		met[s.walking(s.small()).check(t, &s)]++
	}
	if met[api.OK] < 1000 || met[api.ErrBudget] < 200 {
		t.Errorf("the trial shows less than it should: %v", met)
	}
}

// The budget is met at just the sum of the sizes: one less is refused.
func TestTheBudgetIsTheSum(t *testing.T) {
	s := source(22)
	tried := 0
	for tried < 300 {
		a := s.walking(s.small())
		a.budget = api.MaxBudget
		w, errno := flow.New(a.n, a.start, a.from, a.hops, a.budget, a.stop)
		if errno != api.OK || w.Size() < 2 {
			continue
		}
		tried++
		a.budget = w.Size()
		if again, errno := flow.New(a.n, a.start, a.from, a.hops, a.budget, a.stop); errno != api.OK || walkText(again) != walkText(w) {
			t.Fatalf("P12.1: %v: %d", a, errno)
		}
		a.budget--
		if _, errno := flow.New(a.n, a.start, a.from, a.hops, a.budget, a.stop); errno != api.ErrBudget {
			t.Fatalf("P12.1: %v: %d; want ErrBudget", a, errno)
		}
	}
}
