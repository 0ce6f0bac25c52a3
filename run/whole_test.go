package run_test

// The promises of the whole, from the texts: packet by packet what P0.1, P0.4 to P0.7 and P0.10 say of the replies.

import (
	"fmt"
	"slices"
	"strings"
	"testing"

	"reach/api"
	"reach/expr"
	"reach/run"
	"reach/space"
	"reach/step"
	"reach/tern"
	"reach/trail"
)

// way: a path of a packet, cut behind one of its ports.
type way struct {
	ports, entries []string
	header         string // at its last port
	ends           bool   // nothing follows behind it
}

// ways: all paths of a packet of at most so many entries, each cut behind each of its ports; some come more than once.
func (k known) ways(from int, header string, hops int) []way {
	var list []way
	s := api.State{Port: from, Header: header}
	for p := range step.Paths(k.net, s, hops) {
		for end := range p.Ports {
			now, applied, _ := step.Follow(k.net, s, p.Ports[:end+1])
			list = append(list, way{names(k.ports, p.Ports[:end+1]), names(k.entries, p.Entries[:applied]), now, end+1 == len(p.Ports)})
		}
	}
	return list
}

// such: tells which ways a query asks for.
type such func(w way) bool

// isWay: whether a reply's path is one of these, of the witness.
func isWay(ways []way, r api.Reply, is such) bool {
	return slices.ContainsFunc(ways, func(w way) bool {
		return is(w) && slices.Equal(w.ports, r.Ports) && slices.Equal(w.entries, r.Entries) && w.header == r.Final
	})
}

// holds: whether an expression holds for a header.
func (k known) holds(t *testing.T, e []api.Node, header string) bool {
	t.Helper()
	is, errno := expr.Eval(k.config.Fields, e, header)
	if errno != api.OK {
		t.Fatalf("Eval: %d", errno)
	}
	return is
}

// checkReply: the reply's space has just the headers of the expression of which some way from there is such a one (or, of missed, none is); the least is its witness, and its path such a way.
func (k known) checkReply(t *testing.T, what string, a api.Ask, r api.Reply, is such) {
	t.Helper()
	s, errno := space.Parse(k.net.Bits, r.Space)
	if errno != api.OK {
		t.Fatalf("%s: %q: %d", what, r.Space, errno)
	}
	least := ""
	for h := range tern.All(k.net.Bits).Members() {
		ways := k.ways(k.port(a.From), h, a.Hops)
		want := k.holds(t, a.Where, h) && slices.ContainsFunc(ways, is) == (a.Kind != api.AskMissed)
		if s.Has(h) != want {
			t.Fatalf("%s: %+v of\n%s: %s is in %s: %v", what, a, k.text, h, r.Space, !want)
		}
		if want && least == "" {
			least = h
		}
	}
	if r.Found != (least != "") || r.Witness != least || !r.Found && (r.Space != "none" || len(r.Ports)+len(r.Entries) > 0 || r.Final != "") {
		t.Fatalf("%s: %+v of\n%s: %+v, the least is %q", what, a, k.text, r, least)
	}
	if r.Found && a.Kind != api.AskMissed && !isWay(k.ways(k.port(a.From), least, a.Hops), r, is) {
		t.Fatalf("%s: %+v of\n%s: no such path: %+v", what, a, k.text, r)
	}
}

func last(w way) string { return w.ports[len(w.ports)-1] }

// standsTwice: whether just the last port stands on the way already.
func standsTwice(w way) bool {
	for at, port := range w.ports {
		if slices.Contains(w.ports[:at], port) {
			return at == len(w.ports)-1
		}
	}
	return false
}

// suchOf: what each kind of query asks for.
func (k known) suchOf(t *testing.T, a api.Ask) (string, such) {
	t.Helper()
	p, _, _ := trail.Compile(a.Along)
	switch a.Kind {
	case api.AskReach, api.AskMissed:
		return "P0.1", func(w way) bool { return last(w) == a.To }
	case api.AskLoop:
		return "P0.4", standsTwice
	case api.AskLost:
		return "P0.5", func(w way) bool {
			_, states, _ := step.Next(k.net, api.State{Port: k.port(last(w)), Header: w.header})
			return k.net.Ports[k.port(last(w))].In && len(states) == 0
		}
	case api.AskPath:
		return "P17.3: path", func(w way) bool { return p.Match(w.ports) }
	case api.AskAvoid:
		return "P0.7", func(w way) bool { return last(w) == a.To && !p.Match(w.ports) }
	}
	return "", nil
}

// replyTo: the reply to one line; false, if it takes too much.
func (k known) replyTo(t *testing.T, line string) (api.Ask, api.Reply, bool) {
	t.Helper()
	asks, _, errno, _ := run.Parse(line)
	r := run.Run(k.text, line)
	if errno != api.OK || r.Kind != api.ResultReplies && r.Kind != api.ResultBudget {
		t.Fatalf("%q: %d, %+v", line, errno, r)
	}
	if r.Kind == api.ResultBudget {
		return asks[0], api.Reply{}, false
	}
	return asks[0], r.Replies[0], true
}

func TestRepliesPacketByPacket(t *testing.T) {
	s := source(51)
	found, none := map[int]int{}, map[int]int{}
	for range 400 {
		k, ok := knownOf(t, s.network(t))
		if !ok {
			continue
		}
		for _, kind := range []int{api.AskReach, api.AskMissed, api.AskLoop, api.AskLost, api.AskPath, api.AskAvoid} {
			a, r, ok := k.replyTo(t, s.asked(k.config, kind, s.below(5)))
			if !ok {
				continue
			}
			what, is := k.suchOf(t, a)
			k.checkReply(t, what, a, r, is)
			if r.Found {
				found[kind]++
			} else {
				none[kind]++
			}
		}
	}
	for kind, count := range found {
		if count < 20 || none[kind] < 50 || len(found) < 6 {
			t.Errorf("the trial shows less than it should: %v, %v", found, none)
		}
	}
}

// Of missed the path is the port alone.
func TestThePathOfMissed(t *testing.T) {
	s := source(52)
	found := 0
	for range 200 {
		k, ok := knownOf(t, s.network(t))
		if !ok {
			continue
		}
		a, r, ok := k.replyTo(t, s.asked(k.config, api.AskMissed, s.below(5)))
		if ok && r.Found {
			found++
			check(t, "P17.3: missed", fmt.Sprint(r.Ports, len(r.Entries), r.Final), fmt.Sprint([]string{a.From}, 0, r.Witness))
		}
	}
	if found < 50 {
		t.Errorf("the trial shows less than it should: %d", found)
	}
}

// P0.6: from the first port of the one slice that has such a header.
func TestSlicesPacketByPacket(t *testing.T) {
	s := source(53)
	found, none := 0, 0
	for range 600 {
		k, ok := knownOf(t, s.network(t))
		if !ok || len(k.config.Slices) == 0 {
			continue
		}
		a, r, ok := k.replyTo(t, s.asked(k.config, api.AskIsolate, s.below(5)))
		if !ok {
			continue
		}
		slice := func(name string) api.Slice {
			return k.config.Slices[slices.IndexFunc(k.config.Slices, func(s api.Slice) bool { return s.Name == name })]
		}
		p, q := slice(a.From), slice(a.To)
		is := func(w way) bool {
			return slices.Contains(q.Ports, last(w)) && k.holds(t, q.Where, w.header)
		}
		for _, from := range p.Ports {
			a.From, a.Where = from, p.Where
			if r.Found && r.Ports[0] == from {
				break
			}
			k.checkReply(t, "P0.6: ahead of the port that is told", a, api.Reply{Space: "none"}, is)
		}
		if !r.Found {
			none++
			check(t, "P0.6", whole(api.Result{Replies: []api.Reply{r}}), whole(api.Result{Replies: []api.Reply{{Kind: api.AskIsolate, Space: "none"}}}))
			continue
		}
		found++
		k.checkReply(t, "P0.6", a, r, is)
	}
	if found < 80 || none < 80 {
		t.Errorf("the trial shows less than it should: %d, %d", found, none)
	}
}

// P0.4: with as many hops as ports the reply is the same for every greater number.
func TestLoopsOfAnyLength(t *testing.T) {
	s := source(54)
	tried, found := 0, 0
	for range 300 {
		k, ok := knownOf(t, s.network(t))
		if !ok || len(k.ports) > 40 {
			continue
		}
		line := strings.TrimSuffix(s.asked(k.config, api.AskLoop, 9), "9\n")
		with := func(hops int) string { return rendered(k.text, line+fmt.Sprint(hops)) }
		want := with(len(k.ports))
		if want == "budget exceeded\n" {
			continue
		}
		tried++
		if strings.Contains(want, "found") {
			found++
		}
		for _, hops := range []int{len(k.ports) + 1, len(k.ports) + 5, 64} {
			check(t, fmt.Sprintf("P0.4: %s%d of\n%s", line, hops, k.text), with(hops), want)
		}
	}
	if tried < 150 || found < 50 {
		t.Errorf("the trial shows less than it should: %d, %d", tried, found)
	}
}

// met: the entries that a packet meets within so many hops.
func (k known) met(from int, header string, hops int) []string {
	var list []string
	for _, w := range k.ways(from, header, hops) {
		list = append(list, w.entries...)
		at := api.State{Port: k.port(last(w)), Header: w.header}
		if e, _, _ := step.Next(k.net, at); e >= 0 && len(w.entries) < hops {
			list = append(list, k.entries[e])
		}
	}
	return slices.Compact(slices.Sorted(slices.Values(list)))
}

// P0.10: each entry is met by a packet that is named, or dead, and no header at a door meets a dead one.
func TestCoverPacketByPacket(t *testing.T) {
	s := source(55)
	tests, dead := 0, 0
	for range 250 {
		k, ok := knownOf(t, s.network(t))
		if !ok {
			continue
		}
		a, r, ok := k.replyTo(t, s.asked(k.config, api.AskCover, s.below(5)))
		if !ok {
			continue
		}
		var met, gone []string
		for _, line := range r.Lines {
			if rest, ok := strings.CutPrefix(line, "test "); ok && len(gone) == 0 {
				words := strings.SplitN(rest, " ", 4)
				hits := slices.Sorted(slices.Values(strings.Split(words[3], ", ")))
				check(t, "P0.10: "+line, strings.Join(hits, ", "), strings.Join(k.met(k.port(words[0]), words[1], a.Hops), ", "))
				met = append(met, hits...)
				tests++
				continue
			}
			words := strings.Fields(line)
			check(t, "P17.3: "+line, words[0], "dead")
			gone = append(gone, strings.Join(words[1:len(words)-1], " "))
			dead++
		}
		for _, e := range k.entries {
			if slices.Contains(met, e) == slices.Contains(gone, e) {
				t.Fatalf("P0.10: %s of\n%s: %q", e, k.text, r.Lines)
			}
		}
		if r.Found != (len(gone) > 0) {
			t.Fatalf("P17.3: cover is found: %v: %q", r.Found, r.Lines)
		}
		k.checkDead(t, gone, a.Hops)
	}
	if tests < 150 || dead < 150 {
		t.Errorf("the trial shows less than it should: %d, %d", tests, dead)
	}
}

func (k known) checkDead(t *testing.T, gone []string, hops int) {
	t.Helper()
	for at, p := range k.net.Ports {
		if !p.In || slices.ContainsFunc(k.net.Ports, func(o api.Port) bool { return o.To == at }) {
			continue
		}
		for h := range tern.All(k.net.Bits).Members() {
			for _, e := range k.met(at, h, hops) {
				if slices.Contains(gone, e) {
					t.Fatalf("P0.10: %s at %s meets %s of\n%s", h, p.Name, e, k.text)
				}
			}
		}
	}
}

// P0.8: a network's print is answered as its text; so is a text that says the same in other words.
func TestThePrintIsAnsweredAlike(t *testing.T) {
	loose := strings.NewReplacer("dst = 15", "dst=0xf # the last one", "rule 10", "rule 0b1010", "own 8/1", "\n own 0.0.0.8 / 1", "dst < 4", "(dst < 4)", "box A", "\r\nbox\tA")
	for at, e := range wholes() {
		check(t, fmt.Sprint("P0.8: example ", at+1), "\n"+rendered(loose.Replace(labText), e[0]), e[1])
	}
	s := source(56)
	for range 150 {
		c := s.network(t)
		text := printed(t, c)
		other := strings.NewReplacer(" & ", "&", "\n  rule", "\nrule", ", ", " , ", "link ", "\n\n\tlink ", "match ", "match (((", " to ", " to\t", " = ", "=").Replace(text)
		other = closed(other)
		query := s.queries(c)
		check(t, fmt.Sprintf("P0.8: %q of %q", query, other), whole(run.Run(other, query)), whole(run.Run(text, query)))
	}
}

// closed: the brackets that were opened behind a rule's match are closed behind its expression.
func closed(text string) string {
	lines := strings.Split(text, "\n")
	for at, line := range lines {
		ahead, behind, ok := strings.Cut(line, "(((")
		if !ok {
			continue
		}
		end := len(behind)
		for _, word := range []string{" set ", " to\t", " drop"} {
			if n := strings.Index(behind, word); n >= 0 {
				end = min(end, n)
			}
		}
		lines[at] = ahead + "(((" + behind[:end] + ")))" + behind[end:]
	}
	return strings.Join(lines, "\n")
}
