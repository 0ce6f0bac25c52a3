package run_test

// P0.3: what must be answered within a budget, and what cannot be.

import (
	"fmt"
	"strings"
	"testing"

	"reach/api"
	"reach/run"
	"reach/tern"
)

// single: an expression of one cube.
func (s *source) single(fields []api.Field) string {
	f := fields[s.below(len(fields))]
	length := s.below(f.Bits + 1)
	pattern := ""
	for range f.Bits {
		pattern += s.oneOf("0", "1", "x", "x")
	}
	return s.oneOf("any", "any",
		fmt.Sprint(f.Name, " = ", s.below(1<<f.Bits)),
		fmt.Sprint(f.Name, " = ", s.below(1<<f.Bits)>>(f.Bits-length)<<(f.Bits-length), "/", length),
		fmt.Sprint(f.Name, " = %", pattern))
}

// head: fields, and the line that says them.
func (s *source) head() ([]api.Field, string) {
	var fields []api.Field
	text := "header"
	for n := range 1 + s.below(3) {
		fields = append(fields, api.Field{Name: fmt.Sprint("f", n), Bits: 1 + s.below(3)})
		text += fmt.Sprint(" f", n, ":", fields[n].Bits)
	}
	return fields, text + "\n"
}

// ring: each box has at most one rule, which sends to at most one port; no guards.
func (s *source) ring(t *testing.T) (known, bool) {
	t.Helper()
	fields, text := s.head()
	for n := range 1 + s.below(4) {
		text += fmt.Sprintf("box B%d\nin a b\nout c d\n", n)
		if s.below(6) == 0 {
			continue
		}
		text += "rule 1 " + s.oneOf("", "", "from a ") + "match " + s.single(fields)
		if sets := s.sets(fields); sets != "" && s.below(2) == 0 {
			text += " set " + sets
		}
		text += s.oneOf(" drop", " to c", " to d", " to c", " to d") + "\n"
	}
	return knownOf(t, s.linked(t, read(t, text)))
}

// parted: no two rules of a box have a header in common, each has one cube and sends to up to three ports; no guards.
func (s *source) parted(t *testing.T) (known, bool) {
	t.Helper()
	fields, text := s.head()
	for n := range 1 + s.below(3) {
		text += fmt.Sprintf("box B%d\nin a b\nout c d e\n", n)
		f := fields[s.below(len(fields))]
		for value := range 1 << f.Bits {
			if s.below(4) == 0 {
				continue
			}
			text += fmt.Sprintf("rule %d match %s = %d", value, f.Name, value)
			if sets := s.sets(fields); sets != "" && s.below(3) == 0 {
				text += " set " + sets
			}
			text += s.oneOf(" drop", " to c", " to d, c", " to e, c", " to e, d, c", " to d") + "\n"
		}
	}
	return knownOf(t, s.linked(t, read(t, text)))
}

// query: a reach or a loop query with one cube.
func (s *source) query(k known, hops int) (string, api.Ask) {
	ins, outs := portsOf(k.config)
	from := s.oneOf(append(ins, s.oneOf(outs...))...)
	text := fmt.Sprintln("loop", from, "where", s.single(k.config.Fields), "hops", hops)
	if s.below(2) == 0 {
		text = fmt.Sprintln("reach", from, "to", s.oneOf(append(ins, outs...)...), "where", s.single(k.config.Fields), "hops", hops)
	}
	asks, _, _, _ := run.Parse(text)
	return text, asks[0]
}

// paths: how many paths there are, each told by its entries and ports, of all headers that the expression holds for; and the most that one of them has.
func (k known) paths(t *testing.T, a api.Ask) (all, most int) {
	t.Helper()
	seen := map[string]int{}
	for h := range tern.All(k.net.Bits).Members() {
		if !k.holds(t, a.Where, h) {
			continue
		}
		own := map[string]int{}
		for _, w := range k.ways(k.port(a.From), h, a.Hops) {
			// Of the ports behind one entry the last one tells the path.
			if k.net.Ports[k.port(last(w))].To >= 0 {
				continue
			}
			name := strings.Join(w.ports, " ") + ": " + strings.Join(w.entries, ", ")
			own[name]++
			seen[name]++
		}
		most = max(most, len(own))
	}
	return len(seen), most
}

// (a): a budget of one more than the hops is enough.
func TestOneEntryATable(t *testing.T) {
	s := source(61)
	long := 0
	for range 400 {
		k, ok := s.ring(t)
		if !ok {
			t.Fatalf("Lower refuses %s", k.text)
		}
		hops := []int{0, 1, 2, 5, 20, 64}[s.below(6)]
		text, a := s.query(k, hops)
		text = fmt.Sprintln("budget", hops+1) + text
		r := run.Run(k.text, text)
		if r.Kind != api.ResultReplies {
			t.Fatalf("P0.3: %q of\n%s: %+v", text, k.text, r)
		}
		if all, _ := k.paths(t, a); all > 8 {
			long++
		}
	}
	if long < 15 {
		t.Errorf("the trial shows less than it should: %d", long)
	}
}

// (b): a budget of as many as there are paths is enough.
func TestEntriesThatShareNoHeader(t *testing.T) {
	s := source(62)
	tried, many := 0, 0
	for range 400 {
		k, ok := s.parted(t)
		if !ok {
			t.Fatalf("Lower refuses %s", k.text)
		}
		text, a := s.query(k, s.below(5))
		all, _ := k.paths(t, a)
		if all > api.MaxCubes || all == 0 {
			continue
		}
		tried++
		if all > 20 {
			many++
		}
		text = fmt.Sprintln("budget", all) + text
		if r := run.Run(k.text, text); r.Kind != api.ResultReplies {
			t.Fatalf("P0.3: %q of\n%s: %+v, %d paths", text, k.text, r, all)
		}
	}
	if tried < 200 || many < 20 {
		t.Errorf("the trial shows less than it should: %d, %d", tried, many)
	}
}

// If some header has more paths than the budget it is exceeded, whatever the network.
func TestMoreThanTheBudget(t *testing.T) {
	s := source(63)
	over := 0
	for range 500 {
		k, ok := knownOf(t, s.network(t))
		if s.below(2) == 0 {
			k, ok = s.parted(t)
		}
		if !ok {
			continue
		}
		line := s.asked(k.config, api.AskReach, s.below(5))
		asks, _, _, _ := run.Parse(line)
		_, most := k.paths(t, asks[0])
		if most < 2 || most > api.MaxBudget {
			continue
		}
		over++
		text := fmt.Sprintln("budget", most-1) + line
		check(t, fmt.Sprintf("P0.3: %q of\n%s, %d paths", text, k.text, most), rendered(k.text, text), "budget exceeded\n")
	}
	if over < 150 {
		t.Errorf("the trial shows less than it should: %d", over)
	}
}
