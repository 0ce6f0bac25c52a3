package cover_test

// A second telling of P15.1 to P15.3: the meetings from the flows of a walk as plain data, what a candidate meets from their spaces, the choice from sets.

import (
	"fmt"
	"slices"
	"strings"
	"testing"

	"reach/api"
	"reach/cover"
	"reach/flow"
	"reach/space"
	"reach/xfer"
)

// asking: what the calls are asked.
type asking struct {
	n            api.Net
	doors        []int
	hops, budget int
}

func (a asking) String() string {
	return fmt.Sprintf("doors %v, hops %d, budget %d in %.3000s", a.doors, a.hops, a.budget, fmt.Sprint(a.n))
}

func (a asking) cover() (api.Coverage, api.Errno) {
	return cover.Cover(a.n, a.doors, a.hops, a.budget)
}

func (a asking) entries() []api.Entry {
	var all []api.Entry
	for _, table := range a.n.Tables {
		all = append(all, table...)
	}
	return all
}

// ins: the in-ports.
func (a asking) ins() []int {
	var list []int
	for at, p := range a.n.Ports {
		if p.In {
			list = append(list, at)
		}
	}
	return list
}

// meeting: an entry, and which headers at the start meet it.
type meeting struct {
	entry int
	start space.Space
	least string
}

// meetings: those from a door.
func (a asking) meetings(door int) ([]meeting, api.Errno) {
	w, errno := flow.New(a.n, door, x(a.n.Bits), a.hops, a.budget, false)
	if errno != api.OK {
		return nil, errno
	}
	tables, errno := xfer.New(a.n)
	if errno != api.OK {
		return nil, errno
	}
	var list []meeting
	for _, f := range w.All() {
		end := f.Ports[len(f.Ports)-1]
		if len(f.Entries) >= a.hops || !a.n.Ports[end].In {
			continue
		}
		hits, errno := tables.Hits(end)
		if errno != api.OK {
			return nil, errno
		}
		for _, h := range hits {
			m, errno := a.meeting(f, h)
			if errno != api.OK {
				return nil, errno
			}
			if m.least != "" {
				list = append(list, m)
			}
		}
	}
	return list, api.OK
}

// meeting: it is live just if it has a least header.
func (a asking) meeting(f api.Flow, h xfer.Part) (meeting, api.Errno) {
	origin, _ := space.Parse(a.n.Bits, f.Origin)
	before, errno := h.Space.Before(cubeOf(f.Write))
	if errno != api.OK {
		return meeting{}, errno
	}
	start, errno := before.Meet(origin)
	if errno != api.OK {
		return meeting{}, errno
	}
	least, errno := leastOf(start)
	return meeting{h.Entry, start, least}, errno
}

// leastOf: by the plain cubes.
func leastOf(s space.Space) (string, api.Errno) {
	cubes, errno := s.Expand(api.MaxSplit)
	var headers []string
	for _, c := range cubes {
		headers = append(headers, strings.ReplaceAll(c.Text(), "x", "0"))
	}
	if len(headers) == 0 {
		return "", errno
	}
	return slices.Min(headers), errno
}

// tellMeets: of the meetings from a door.
func (a asking) tellMeets(list []meeting, errno api.Errno, entry int) string {
	if errno != api.OK {
		return fmt.Sprint("error ", errno)
	}
	all := space.None(a.n.Bits)
	for _, m := range list {
		if m.entry == entry {
			if all, errno = m.start.Join(all); errno != api.OK {
				return fmt.Sprint("error ", errno)
			}
		}
	}
	return all.Text()
}

// candidates: one for each meeting, equal ones too.
func (a asking) candidates(door int, list []meeting) []api.Packet {
	var packets []api.Packet
	for _, m := range list {
		met := map[int]bool{}
		for _, other := range list {
			if other.start.Has(m.least) {
				met[other.entry] = true
			}
		}
		packets = append(packets, api.Packet{Port: door, Header: m.least, Hits: numbersOf(met)})
	}
	return packets
}

func numbersOf(set map[int]bool) []int {
	var list []int
	for e, in := range set {
		if in {
			list = append(list, e)
		}
	}
	slices.Sort(list)
	return list
}

// notYet: how many of the packet's entries none of these packets meets.
func notYet(p api.Packet, chosen []api.Packet) int {
	count := 0
	for _, e := range p.Hits {
		if !slices.ContainsFunc(chosen, func(c api.Packet) bool { return slices.Contains(c.Hits, e) }) {
			count++
		}
	}
	return count
}

// choice: which of the candidates are chosen, one behind the other.
func choice(candidates []api.Packet) []api.Packet {
	var chosen []api.Packet
	for {
		var counts []int
		for _, p := range candidates {
			counts = append(counts, notYet(p, chosen))
		}
		if len(counts) == 0 || slices.Max(counts) == 0 {
			return chosen
		}
		chosen = append(chosen, candidates[slices.Index(counts, slices.Max(counts))])
	}
}

// why: the reason of an entry that is not met.
func (a asking) why(entry int) (int, api.Errno) {
	e := a.entries()[entry]
	if len(e.Ins)*len(e.Cubes) == 0 {
		return 1, api.OK
	}
	tables, errno := xfer.New(a.n)
	if errno != api.OK {
		return 0, errno
	}
	for _, in := range e.Ins {
		hits, _ := tables.Hits(in)
		for _, h := range hits {
			if h.Entry != entry {
				continue
			}
			cubes, errno := h.Space.Expand(api.MaxSplit)
			if errno != api.OK {
				return 0, errno
			}
			if len(cubes) > 0 {
				return 3, api.OK
			}
		}
	}
	return 2, api.OK
}

// allCandidates: those from all doors.
func (a asking) allCandidates() ([]api.Packet, api.Errno) {
	var all []api.Packet
	for _, door := range a.doors {
		list, errno := a.meetings(door)
		if errno != api.OK {
			return nil, errno
		}
		all = append(all, a.candidates(door, list)...)
	}
	return all, api.OK
}

func (a asking) tellCover() string {
	if _, errno := xfer.New(a.n); errno != api.OK {
		return fmt.Sprint("error ", errno)
	}
	all, errno := a.allCandidates()
	if errno != api.OK {
		return fmt.Sprint("error ", errno)
	}
	c := api.Coverage{Packets: choice(all)}
	for entry := range a.entries() {
		if slices.ContainsFunc(all, func(p api.Packet) bool { return slices.Contains(p.Hits, entry) }) {
			c.Live++
			continue
		}
		why, errno := a.why(entry)
		if errno != api.OK {
			return fmt.Sprint("error ", errno)
		}
		c.Dead = append(c.Dead, api.Dead{Entry: entry, Why: why})
	}
	return text(c, api.OK)
}

func (a asking) tellDoors() string {
	var list []int
	for _, in := range a.ins() {
		if !slices.ContainsFunc(a.n.Ports, func(p api.Port) bool { return p.To == in }) {
			list = append(list, in)
		}
	}
	return fmt.Sprint(list)
}

// some: some of these, each at most once, in any order.
func (s *source) some(list []int) []int {
	var taken []int
	for _, v := range list {
		if s.below(2) == 0 {
			taken = slices.Insert(taken, s.below(len(taken)+1), v)
		}
	}
	return taken
}

// asking: something to ask in some network. Some entries have no cubes.
func (s *source) asking(k kind) asking {
	a := asking{n: s.net(k), hops: s.below(8), budget: 1 + s.below(100)}
	for _, table := range a.n.Tables {
		if len(table) > 0 && s.below(6) == 0 {
			table[s.below(len(table))].Cubes = nil
		}
	}
	a.doors = s.some(a.ins())
	switch s.below(4) {
	case 0:
		a.budget = api.MaxBudget
	case 1:
		a.hops = s.below(api.MaxHops + 1)
	}
	return a
}

// count: what the trial has met of a line.
func count(met map[string]int, what, line string) {
	switch {
	case strings.HasPrefix(line, "error"):
		met[what+" "+line]++
	case line == "none" || line == "[]" || strings.HasPrefix(line, "live 0"):
		met[what+" none"]++
	default:
		met[what]++
	}
}

// check: whether all is answered as it is told; met counts what is answered.
func (a asking) check(t *testing.T, met map[string]int) {
	t.Helper()
	compare := func(what, got, want string) {
		if got != want {
			t.Fatalf("%s: %v:\n%s\nwant\n%s", what, a, got, want)
		}
		count(met, what, got)
	}
	compare("P15.1: Doors", doorsOf(a.n), a.tellDoors())
	compare("P15.3: Cover", covered(a.n, a.doors, a.hops, a.budget), a.tellCover())
	for _, door := range a.doors {
		list, errno := a.meetings(door)
		for entry := range a.entries() {
			compare("P15.2: Meets", meets(a.n, door, entry, a.hops, a.budget), a.tellMeets(list, errno, entry))
		}
	}
}

func TestCallsAsTheyAreTold(t *testing.T) {
	s := source(51)
	met := map[string]int{}
	for _, k := range kinds() {
		for range k.tries {
			s.asking(k).check(t, met)
		}
	}
	for range 500 {
		s.asking(s.small()).check(t, met)
	}
	for _, what := range []string{"P15.1: Doors", "P15.2: Meets", "P15.3: Cover"} {
		if met[what] < 100 || met[what+" none"] < 100 || met[what+" error 3"] < 50 && what != "P15.1: Doors" {
			t.Errorf("the trial shows less than it should of %s: %v", what, met)
		}
	}
}

// The example's network, with everything that can be asked of it.
func TestTheExampleAsItIsTold(t *testing.T) {
	met := map[string]int{}
	for _, doors := range [][]int{nil, {0}, {2}, {0, 2}, {2, 0}} {
		for hops := range 8 {
			for _, budget := range []int{4, 5, 6, 7, 12} {
				asking{exampleNet(), doors, hops, budget}.check(t, met)
			}
		}
	}
}

// What the choice hangs on comes about in the trial: the first candidates are not the best ones; of several such the first is taken; what meets the most may meet too few that are new.
func TestTheChoice(t *testing.T) {
	s := source(52)
	var notFirst, equal, new int
	for range 500 {
		k := s.small()
		k.entries, k.ports = 8, 8+s.below(8)
		a := s.asking(k)
		a.doors, a.hops, a.budget = a.ins(), s.below(6), api.MaxBudget
		all, errno := a.allCandidates()
		if errno != api.OK {
			continue
		}
		chosen := choice(all)
		check(t, fmt.Sprint("P15.3: ", a), covered(a.n, a.doors, a.hops, a.budget), a.tellCover())
		for at, p := range chosen {
			ahead, worth := chosen[:at], notYet(p, chosen[:at])
			place := slices.IndexFunc(all, func(c api.Packet) bool { return c.Port == p.Port && c.Header == p.Header })
			if slices.ContainsFunc(all[:place], func(c api.Packet) bool { return notYet(c, ahead) > 0 }) {
				notFirst++
			}
			if slices.ContainsFunc(all[place+1:], func(c api.Packet) bool {
				return notYet(c, ahead) == worth && fmt.Sprint(c.Hits) != fmt.Sprint(p.Hits)
			}) {
				equal++
			}
			if slices.ContainsFunc(all, func(c api.Packet) bool { return len(c.Hits) > len(p.Hits) && notYet(c, ahead) > 0 }) {
				new++
			}
		}
	}
	if notFirst < 100 || equal < 100 || new < 50 {
		t.Errorf("the trial shows less than it should: %d, %d, %d", notFirst, equal, new)
	}
}
