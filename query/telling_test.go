package query_test

// A second telling of P13.2 to P13.7: from the flows of a walk as plain data, each with what the question takes of it and where its path ends.

import (
	"fmt"
	"slices"
	"strings"
	"testing"

	"reach/api"
	"reach/flow"
	"reach/query"
	"reach/space"
	"reach/tern"
	"reach/xfer"
)

// asking: what the questions are asked. Reach and Missed have a port to come to, Isolate its zones.
type asking struct {
	n            api.Net
	from, to     int
	where        string
	p, q         api.Zone
	hops, budget int
}

func (a asking) String() string {
	return fmt.Sprintf("from %d to %d where %.300s, %.600s into %.600s, hops %d, budget %d in %.3000s", a.from, a.to, a.where, fmt.Sprint(a.p), fmt.Sprint(a.q), a.hops, a.budget, fmt.Sprint(a.n))
}

// calls: what is answered to each question, in one line.
func (a asking) calls() map[string]string {
	return map[string]string{
		"P13.3: Reach":   reach(a.n, a.from, a.to, a.where, a.hops, a.budget),
		"P13.4: Missed":  missed(a.n, a.from, a.to, a.where, a.hops, a.budget),
		"P13.5: Loop":    loop(a.n, a.from, a.where, a.hops, a.budget),
		"P13.6: Lost":    lost(a.n, a.from, a.where, a.hops, a.budget),
		"P13.7: Isolate": isolate(a.n, a.p, a.q, a.hops, a.budget),
	}
}

// told: what is to be answered to each. All arguments are as they should be.
func (a asking) told() map[string]string {
	return map[string]string{
		"P13.3: Reach":   a.tell(a.from, a.where, false, a.ofReach),
		"P13.4: Missed":  a.tellMissed(),
		"P13.5: Loop":    a.tell(a.from, a.where, true, ofLoop),
		"P13.6: Lost":    a.tell(a.from, a.where, false, a.ofLost()),
		"P13.7: Isolate": a.tellIsolate(),
	}
}

// part: a flow that a question speaks of: what it takes of its origin, and how many ports its path has.
type part struct {
	f     api.Flow
	taken space.Space
	ports int
}

func (a asking) space(text string) space.Space {
	s, _ := space.Parse(a.n.Bits, text)
	return s
}

// parts: those of all flows that the question speaks of (it tells 0 ports of the others), and all of them together.
func (a asking) parts(from int, where string, stop bool, of func(api.Flow, space.Space) (int, space.Space, api.Errno)) ([]part, space.Space, api.Errno) {
	w, errno := flow.New(a.n, from, where, a.hops, a.budget, stop)
	if errno != api.OK {
		return nil, space.Space{}, errno
	}
	all := space.None(a.n.Bits)
	var parts []part
	for _, f := range w.All() {
		ports, taken, errno := of(f, a.space(f.Origin))
		if errno != api.OK {
			return nil, space.Space{}, errno
		}
		if ports == 0 {
			continue
		}
		parts = append(parts, part{f, taken, ports})
		if all, errno = taken.Join(all); errno != api.OK {
			return nil, space.Space{}, errno
		}
	}
	return parts, all, api.OK
}

func (a asking) tell(from int, where string, stop bool, of func(api.Flow, space.Space) (int, space.Space, api.Errno)) string {
	parts, all, errno := a.parts(from, where, stop, of)
	if errno != api.OK {
		return fmt.Sprint("error ", errno)
	}
	least, errno := leastOf(all)
	if errno != api.OK {
		return fmt.Sprint("error ", errno)
	}
	for _, p := range parts {
		if p.taken.Has(least) {
			return fmt.Sprint(all.Text(), " from ", from, ": ", least, " ", p.f.Ports[:p.ports], p.f.Entries, " ", cubeOf(least).Write(cubeOf(p.f.Write)).Text())
		}
	}
	return fmt.Sprint("none from ", from)
}

// leastOf: by the plain cubes.
func leastOf(s space.Space) (string, api.Errno) {
	cubes, errno := s.Expand(api.MaxSplit)
	var headers []string
	for _, c := range cubes {
		headers = append(headers, strings.ReplaceAll(c.Text(), "x", "0"))
	}
	if len(headers) == 0 {
		return "", errno
	}
	return slices.Min(headers), errno
}

// place: how many ports a path has that ends with the first new port of these; 0, if there is none.
func place(f api.Flow, ports []int) int {
	for at := len(f.Ports) - f.New; at < len(f.Ports); at++ {
		for _, p := range ports {
			if p == f.Ports[at] {
				return at + 1
			}
		}
	}
	return 0
}

func (a asking) ofReach(f api.Flow, origin space.Space) (int, space.Space, api.Errno) {
	return place(f, []int{a.to}), origin, api.OK
}

func ofLoop(f api.Flow, origin space.Space) (int, space.Space, api.Errno) {
	seen := map[int]bool{}
	for at, p := range f.Ports {
		if seen[p] {
			return at + 1, origin, api.OK
		}
		seen[p] = true
	}
	return 0, origin, api.OK
}

func (a asking) ofLost() func(api.Flow, space.Space) (int, space.Space, api.Errno) {
	// Where it is refused there is no walk, either.
	tables, _ := xfer.New(a.n)
	return func(f api.Flow, origin space.Space) (int, space.Space, api.Errno) {
		end := f.Ports[len(f.Ports)-1]
		if !a.n.Ports[end].In {
			return 0, origin, api.OK
		}
		gone, errno := tables.Gone(end)
		if errno != api.OK {
			return 0, origin, errno
		}
		rest, errno := a.ending(f, origin, gone)
		return len(f.Ports), rest, errno
	}
}

func (a asking) ofIsolate(f api.Flow, origin space.Space) (int, space.Space, api.Errno) {
	ports := place(f, a.q.Ports)
	if ports == 0 {
		return 0, origin, api.OK
	}
	met, errno := a.ending(f, origin, a.space(a.q.Space))
	return ports, met, errno
}

// ending: what of the origin is in the space at the flow's end.
func (a asking) ending(f api.Flow, origin, s space.Space) (space.Space, api.Errno) {
	before, errno := s.Before(cubeOf(f.Write))
	if errno != api.OK {
		return space.Space{}, errno
	}
	return origin.Meet(a.space(before.Text()))
}

func (a asking) tellMissed() string {
	_, come, errno := a.parts(a.from, a.where, false, a.ofReach)
	if errno != api.OK {
		return fmt.Sprint("error ", errno)
	}
	rest, errno := a.space(a.where).Minus(come)
	if errno != api.OK {
		return fmt.Sprint("error ", errno)
	}
	least, errno := leastOf(rest)
	switch {
	case errno != api.OK:
		return fmt.Sprint("error ", errno)
	case least == "":
		return fmt.Sprint("none from ", a.from)
	}
	return fmt.Sprint(rest.Text(), " from ", a.from, ": ", least, " ", []int{a.from}, []int{}, " ", least)
}

func (a asking) tellIsolate() string {
	for _, from := range a.p.Ports {
		if line := a.tell(from, a.p.Space, false, a.ofIsolate); line != fmt.Sprint("none from ", from) {
			return line
		}
	}
	return "none from 0"
}

// zone: some ports, and a space.
func (s *source) zone(k kind) api.Zone {
	z := api.Zone{Space: s.from(k)}
	for range s.below(4) {
		z.Ports = append(z.Ports, s.below(k.ports))
	}
	return z
}

// asking: something to ask in some network.
func (s *source) asking(k kind) asking {
	a := asking{n: s.net(k), from: s.below(k.ports), to: s.below(k.ports), where: s.from(k), p: s.zone(k), q: s.zone(k), hops: s.below(8), budget: 1 + s.below(100)}
	switch s.below(4) {
	case 0:
		a.budget = api.MaxBudget
	case 1:
		a.hops = s.below(api.MaxHops + 1)
	}
	return a
}

// isRead: whether all its spaces can be read.
func (a asking) isRead() bool {
	for _, text := range []string{a.where, a.p.Space, a.q.Space} {
		if _, errno := space.Parse(a.n.Bits, text); errno != api.OK {
			return false
		}
	}
	return true
}

// check: whether all questions are answered as they are told; met counts what is answered.
func (a asking) check(t *testing.T, met map[string]int) {
	t.Helper()
	told := a.told()
	for what, got := range a.calls() {
		if got != told[what] {
			t.Fatalf("%s: %v:\n%s\nwant\n%s", what, a, got, told[what])
		}
		switch {
		case strings.HasPrefix(got, "error"):
			met[what+" "+got]++
		case strings.HasPrefix(got, "none"):
			met[what+" none"]++
		default:
			met[what]++
		}
	}
}

func TestQuestionsAsTheyAreTold(t *testing.T) {
	s := source(21)
	met := map[string]int{}
	for _, k := range kinds() {
		for range k.tries * 2 {
			if a := s.asking(k); a.isRead() {
				a.check(t, met)
			}
		}
	}
	for range 1000 {
		s.asking(s.small()).check(t, met)
	}
	for what := range (asking{n: exampleNet(), where: "xx", p: zone("xx"), q: zone("xx"), budget: 1}).calls() {
		if met[what] < 100 || met[what+" none"] < 100 || met[what+" error 3"] < 50 {
			t.Errorf("the trial shows less than it should of %s: %v", what, met)
		}
	}
}

// The example's network, with everything that can be asked of it.
func TestTheExampleAsItIsTold(t *testing.T) {
	texts := []string{"none", "xx", "0x", "x1", "1x-11", "00+11", "xx-0x-1x", "xx-00"}
	met := map[string]int{}
	for at, n := range []api.Net{exampleNet(), lossyNet()} {
		for from := range 5 {
			for to := range 5 {
				for hops := range 6 {
					for k, where := range texts {
						q := zone(texts[(k+hops+to)%len(texts)], to, (to+from+at)%5)
						asking{n, from, to, where, zone(where, from, to), q, hops, 12}.check(t, met)
					}
				}
			}
		}
	}
}

// The witness is the least of all headers that are in the space, and in it.
func TestTheWitnessIsTheLeast(t *testing.T) {
	s := source(22)
	found := 0
	for range 400 {
		a := s.asking(s.small())
		for what, answer := range a.answers() {
			if !answer.Found {
				continue
			}
			found++
			told := a.space(answer.Space)
			for h := range tern.All(a.n.Bits).Members() {
				if told.Has(h) {
					check(t, fmt.Sprint("P13.2: ", what, ": ", a), answer.Witness, h)
					break
				}
			}
		}
	}
	if found < 300 {
		t.Errorf("the trial shows less than it should: %d", found)
	}
}

// answers: those that are no errors.
func (a asking) answers() map[string]api.Answer {
	list := map[string]api.Answer{}
	keep := func(what string) func(api.Answer, api.Errno) {
		return func(answer api.Answer, errno api.Errno) {
			if errno == api.OK {
				list[what] = answer
			}
		}
	}
	keep("Reach")(query.Reach(a.n, a.from, a.to, a.where, a.hops, a.budget))
	keep("Missed")(query.Missed(a.n, a.from, a.to, a.where, a.hops, a.budget))
	keep("Loop")(query.Loop(a.n, a.from, a.where, a.hops, a.budget))
	keep("Lost")(query.Lost(a.n, a.from, a.where, a.hops, a.budget))
	keep("Isolate")(query.Isolate(a.n, a.p, a.q, a.hops, a.budget))
	return list
}
