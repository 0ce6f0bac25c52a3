package query_test

// P13.10: answers that are played again.

import (
	"fmt"
	"slices"
	"strings"
	"testing"

	"reach/api"
	"reach/query"
	"reach/space"
	"reach/step"
)

// holds: a second telling of what an answer must be, by the paths of its witness.
func holds(n api.Net, a api.Answer) bool {
	s, errno := space.Parse(n.Bits, a.Space)
	if !a.Found || errno != api.OK || !s.Has(a.Witness) || len(a.Ports) == 0 || a.Start < 0 || a.Start >= len(n.Ports) {
		return false
	}
	for p := range step.Paths(n, api.State{Port: a.Start, Header: a.Witness}, len(a.Entries)+1) {
		// The header at the end of the path's beginning is written by its entries.
		final := cubeOf(a.Witness)
		for _, e := range p.Entries[:min(len(a.Entries), len(p.Entries))] {
			final = final.Write(cubeOf(entries(n)[e].Write))
		}
		if len(p.Ports) >= len(a.Ports) && slices.Equal(p.Ports[:len(a.Ports)], a.Ports) && slices.Equal(p.Entries[:applied(n, a.Ports)], a.Entries) && final.Text() == a.Final {
			return true
		}
	}
	return false
}

// entries: all of the network, by their numbers.
func entries(n api.Net) []api.Entry { return slices.Concat(n.Tables...) }

// applied: how many entries are on a path: one for each in-port but the last port.
func applied(n api.Net, ports []int) int {
	count := 0
	for _, p := range ports[:max(len(ports)-1, 0)] {
		if n.Ports[p].In {
			count++
		}
	}
	return count
}

func (s *source) number(n api.Net) int { return s.below(len(n.Ports)+2) - 1 }

// spoilt: the answer with something in it another one; it may hold all the same.
func (s *source) spoilt(n api.Net, a api.Answer) api.Answer {
	a.Ports, a.Entries = slices.Clone(a.Ports), slices.Clone(a.Entries)
	switch s.below(12) {
	case 0:
		a.Found = false
	case 1:
		a.Start = s.number(n)
	case 2:
		a.Space = s.cube(n.Bits, "01xx")
	case 3:
		a.Space += s.cube(n.Bits, "+-x01")
	case 4:
		a.Witness = s.cube(n.Bits, "01")
	case 5:
		a.Final = s.cube(n.Bits, "01")
	case 6:
		a.Witness, a.Final = s.cube(n.Bits, "01"), s.cube(n.Bits, "01")
	case 7:
		a.Ports = a.Ports[:s.below(len(a.Ports)+1)]
	case 8:
		a.Ports[s.below(len(a.Ports))] = s.number(n)
	case 9:
		a.Ports = append(a.Ports, s.number(n))
	case 10:
		a.Entries = a.Entries[:s.below(len(a.Entries)+1)]
	case 11:
		a.Entries = append(a.Entries, 0)
		a.Entries[s.below(len(a.Entries))] = s.below(4)
	}
	return a
}

func TestSpoiltAnswers(t *testing.T) {
	s := source(51)
	met := map[api.Errno]int{}
	for range 700 {
		a := s.asking(s.small())
		a.hops, a.budget = s.below(5), api.MaxBudget
		for what, answer := range a.answers() {
			if !answer.Found {
				continue
			}
			if errno := query.Replay(a.n, answer); errno != api.OK {
				t.Fatalf("P13.10: %s: %v: %s: %d", what, a, text(answer, api.OK), errno)
			}
			for range 6 {
				other := s.spoilt(a.n, answer)
				errno := query.Replay(a.n, other)
				met[errno]++
				if holds(a.n, other) != (errno == api.OK) {
					t.Fatalf("P13.10: %v: %+v: %d", a.n, other, errno)
				}
			}
		}
	}
	if met[api.OK] < 300 || met[api.ErrReplay] < 3000 || len(met) != 2 {
		t.Errorf("the trial shows less than it should: %v", met)
	}
}

// good: the first answer of the examples.
func good() api.Answer {
	return api.Answer{Found: true, Start: 0, Space: "0x+1x", Witness: "00", Ports: []int{0, 1, 2, 4}, Entries: []int{0, 1}, Final: "10"}
}

func TestAnswersThatDoNotHold(t *testing.T) {
	for what, do := range map[string]func(a *api.Answer){
		"nothing":                    func(a *api.Answer) { *a = api.Answer{} },
		"not found":                  func(a *api.Answer) { a.Found = false },
		"another start":              func(a *api.Answer) { a.Start = 2 },
		"no start":                   func(a *api.Answer) { a.Start, a.Ports[0] = -1, -1 },
		"a start far off":            func(a *api.Answer) { a.Start, a.Ports[0] = 5, 5 },
		"a space without it":         func(a *api.Answer) { a.Space = "1x+01" },
		"a space of nothing":         func(a *api.Answer) { a.Space = "none" },
		"no space":                   func(a *api.Answer) { a.Space = "" },
		"a space that is written so": func(a *api.Answer) { a.Space = "0x+" },
		"a space of another width":   func(a *api.Answer) { a.Space = "xxx" },
		"a space of too many cubes":  func(a *api.Answer) { a.Space = tooMany() },
		"no witness":                 func(a *api.Answer) { a.Witness = "" },
		"another witness":            func(a *api.Answer) { a.Witness = "11" },
		"a witness of all headers":   func(a *api.Answer) { a.Witness = "xx" },
		"a longer witness":           func(a *api.Answer) { a.Witness = "000" },
		"no port":                    func(a *api.Answer) { a.Ports = nil },
		"the start alone":            func(a *api.Answer) { a.Ports = a.Ports[:1] },
		"a port less":                func(a *api.Answer) { a.Ports = a.Ports[:3] },
		"a port more":                func(a *api.Answer) { a.Ports = append(a.Ports, 0) },
		"a port far off":             func(a *api.Answer) { a.Ports[1] = 99 },
		"over no link":               func(a *api.Answer) { a.Ports = []int{0, 1, 4} },
		"another end":                func(a *api.Answer) { a.Ports[3] = 3; a.Entries[1] = 2 },
		"no entry":                   func(a *api.Answer) { a.Entries = nil },
		"an entry less":              func(a *api.Answer) { a.Entries = a.Entries[:1] },
		"an entry more":              func(a *api.Answer) { a.Entries = append(a.Entries, 2) },
		"the other order":            func(a *api.Answer) { a.Entries = []int{1, 0} },
		"no final":                   func(a *api.Answer) { a.Final = "" },
		"the witness as final":       func(a *api.Answer) { a.Final = "00" },
		"no final and no port":       func(a *api.Answer) { a.Ports, a.Entries, a.Final = nil, nil, "" },
		"no final of a port far off": func(a *api.Answer) { a.Ports[1], a.Final = 99, "" },
		"no final of no start":       func(a *api.Answer) { a.Start, a.Ports[0], a.Final = -1, -1, "" },
		"no final off the path":      func(a *api.Answer) { a.Ports[3], a.Final = 2, "" },
		"a longer final":             func(a *api.Answer) { a.Final = "100" },
		"texts of many bytes":        func(a *api.Answer) { a.Witness, a.Final = strings.Repeat("0", 1<<16), strings.Repeat("1", 1<<16) },
	} {
		a := good()
		do(&a)
		if errno := query.Replay(exampleNet(), a); errno != api.ErrReplay {
			t.Errorf("P13.10: %s: %d", what, errno)
		}
	}
}

func TestAnswersThatHold(t *testing.T) {
	for what, do := range map[string]func(a *api.Answer){
		"as it is":               func(a *api.Answer) {},
		"the witness alone":      func(a *api.Answer) { a.Space = "00" },
		"all":                    func(a *api.Answer) { a.Space = "xx" },
		"not in its form":        func(a *api.Answer) { a.Space = "0x+1x+xx-11+00" },
		"the greater witness":    func(a *api.Answer) { a.Witness, a.Final = "01", "11" },
		"another path":           func(a *api.Answer) { a.Ports[3] = 3 },
		"on to the next box":     func(a *api.Answer) { a.Ports = []int{0, 1, 2, 3, 0} },
		"the start alone":        func(a *api.Answer) { a.Ports, a.Entries, a.Final = []int{0}, nil, "00" },
		"no entry but a list":    func(a *api.Answer) { a.Ports, a.Entries, a.Final = []int{0}, []int{}, "00" },
		"to an out-port":         func(a *api.Answer) { a.Ports, a.Entries, a.Final = []int{0, 1}, []int{0}, "00" },
		"from an out-port":       func(a *api.Answer) { a.Start, a.Ports, a.Entries = 1, []int{1, 2, 3}, []int{1} },
		"an out-port alone":      func(a *api.Answer) { a.Start, a.Ports, a.Entries, a.Final = 1, []int{1}, nil, "00" },
		"an out-port's link":     func(a *api.Answer) { a.Start, a.Ports, a.Entries, a.Final = 1, []int{1, 2}, nil, "00" },
		"a path that comes back": func(a *api.Answer) { a.Ports, a.Entries = []int{0, 1, 2, 3, 0, 1, 2, 4}, []int{0, 1, 0, 2} },
	} {
		a := good()
		do(&a)
		if errno := query.Replay(exampleNet(), a); errno != api.OK {
			t.Errorf("P13.10: %s: %d", what, errno)
		}
	}
}

// The errors ahead of what holds: too long by the list's or text's length alone, then no network.
func TestErrorsOfReplay(t *testing.T) {
	const most = 2*api.MaxHops + 2
	for what, do := range map[string]func(a *api.Answer){
		"Space":        func(a *api.Answer) { a.Space = tooLong() },
		"Ports":        func(a *api.Answer) { a.Ports = ports(most + 1) },
		"Entries":      func(a *api.Answer) { a.Entries = ports(most + 1) },
		"many Ports":   func(a *api.Answer) { a.Ports = ports(1 << 16) },
		"many Entries": func(a *api.Answer) { a.Entries = ports(1 << 16) },
	} {
		for _, n := range []api.Net{exampleNet(), brokenNet(), {}} {
			a := good()
			do(&a)
			b := a
			b.Found = false
			if query.Replay(n, a) != api.ErrLong || query.Replay(n, b) != api.ErrLong {
				t.Errorf("P13.10: %s is too long: %d, %d", what, query.Replay(n, a), query.Replay(n, b))
			}
		}
	}
	for what, do := range map[string]func(a *api.Answer){
		"Space":     func(a *api.Answer) { a.Space = tooLong()[1:] },
		"Ports":     func(a *api.Answer) { a.Ports = ports(most) },
		"Entries":   func(a *api.Answer) { a.Entries = ports(most) },
		"nothing":   func(a *api.Answer) { *a = api.Answer{} },
		"all of it": func(a *api.Answer) {},
	} {
		a := good()
		do(&a)
		if errno := query.Replay(brokenNet(), a); errno != api.ErrNet {
			t.Errorf("P13.10: no network, and %s: %d", what, errno)
		}
		if errno := query.Replay(exampleNet(), a); what != "all of it" && errno != api.ErrReplay {
			t.Errorf("P13.10: %s does not hold: %d", what, errno)
		}
	}
}

// The longest path that there is: from a linked out-port, with MaxHops entries.
func TestTheLongestPath(t *testing.T) {
	for _, bits := range []int{2, 256} {
		n := chain(bits, 3)
		n.Tables[2] = append([]api.Entry{{Ins: []int{4}, Cubes: []string{"1" + x(bits-2) + "0"}, Write: "1" + x(bits-2) + "1", Outs: []int{5}}}, n.Tables[2]...)
		for from := range 6 {
			where := strings.Repeat("1", bits)
			a, errno := query.Isolate(n, zone(where, from), zone(where, from), api.MaxHops, 1024)
			if errno != api.OK || query.Replay(n, a) != api.OK {
				t.Errorf("P13.10: %s: %d", text(a, errno), query.Replay(n, a))
			}
		}
	}
	// It stops where the hops end: only the last port has no entry to go on by.
	n := chain(2, 3)
	a := api.Answer{Found: true, Start: 5, Space: "1x", Witness: "11", Ports: []int{5, 0}, Final: "10"}
	for hop := range api.MaxHops {
		b := hop % 3
		a.Ports, a.Entries = append(a.Ports, 2*b+1, 2*((b+1)%3)), append(a.Entries, b)
	}
	if len(a.Ports) != 2*api.MaxHops+2 || query.Replay(n, a) != api.OK {
		t.Errorf("P13.10: %d ports: %d", len(a.Ports), query.Replay(n, a))
	}
	a.Entries[63]++
	if errno := query.Replay(n, a); errno != api.ErrReplay {
		t.Errorf("P13.10: another last entry: %d", errno)
	}
}

// Reach with all its hops tells a path of as many ports as may be; Replay takes it.
func TestTheLongestPathIsFound(t *testing.T) {
	// A box counts in six bits up to 63 and then lets the packet out: one entry a number.
	n := api.Net{Bits: 6, Ports: []api.Port{{Name: "R.a", In: true, To: -1}, {Name: "R.b", To: 0}, {Name: "R.c", To: -1}}, Guards: make([][]api.Guard, 3)}
	var table []api.Entry
	for k := range 64 {
		out := 1
		if k == 63 {
			out = 2
		}
		table = append(table, api.Entry{Ins: []int{0}, Cubes: []string{fmt.Sprintf("%06b", k)}, Write: fmt.Sprintf("%06b", (k+1)%64), Outs: []int{out}})
	}
	n.Tables = [][]api.Entry{table}
	for _, from := range []int{0, 1} {
		a, errno := query.Reach(n, from, 2, "000000", api.MaxHops, api.MaxBudget)
		if errno != api.OK || !a.Found || len(a.Entries) != api.MaxHops || len(a.Ports) != 128+from || a.Final != "000000" || query.Replay(n, a) != api.OK {
			t.Errorf("P13.3: %s: %d", text(a, errno), query.Replay(n, a))
		}
		check(t, "P13.3", reach(n, from, 2, "000000", api.MaxHops-1, api.MaxBudget), fmt.Sprint("none from ", from))
	}
	a, errno := query.Isolate(n, zone("000000", 1), zone("111111", 0), api.MaxHops, api.MaxBudget)
	if errno != api.OK || len(a.Ports) != 128 || a.Final != "111111" || query.Replay(n, a) != api.OK {
		t.Errorf("P13.7: %s: %d", text(a, errno), query.Replay(n, a))
	}
}
