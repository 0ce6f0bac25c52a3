package run_test

// P17.3: the replies, query by query, by a second telling from the calls of the layers below.

import (
	"fmt"
	"slices"
	"strings"
	"testing"

	"reach/api"
	"reach/cover"
	"reach/expr"
	"reach/field"
	"reach/lower"
	"reach/model"
	"reach/query"
	"reach/run"
	"reach/step"
	"reach/trail"
)

// known: a network in words and in numbers, and the names that belong to these.
type known struct {
	config         api.Config
	text           string
	net            api.Net
	ports, entries []string
}

// knownOf: false, if its tables take too much.
func knownOf(t *testing.T, c api.Config) (known, bool) {
	t.Helper()
	k := known{config: c, text: printed(t, c)}
	var errno api.Errno
	if k.net, errno = lower.Lower(c); errno != api.OK {
		return k, false
	}
	ports, _ := model.Ports(c)
	for _, p := range ports {
		k.ports = append(k.ports, p.Name)
	}
	for box := range c.Boxes {
		table, _ := lower.Table(c, box)
		for _, e := range table {
			k.entries = append(k.entries, e.Name)
		}
	}
	return k, true
}

func names(all []string, numbers []int) []string {
	var list []string
	for _, n := range numbers {
		list = append(list, all[n])
	}
	return list
}

func (k known) port(name string) int { return slices.Index(k.ports, name) }

// told: a reply to one query, or ErrBudget.
func (k known) told(a api.Ask, budget int) (api.Reply, api.Errno) {
	where := ""
	if len(a.Where) > 0 {
		s, errno := expr.Space(k.config.Fields, a.Where)
		if errno != api.OK {
			return api.Reply{}, errno
		}
		where = s.Text()
	}
	var answer api.Answer
	var errno api.Errno
	from, to := k.port(a.From), k.port(a.To)
	switch a.Kind {
	case api.AskReach:
		answer, errno = query.Reach(k.net, from, to, where, a.Hops, budget)
	case api.AskMissed:
		answer, errno = query.Missed(k.net, from, to, where, a.Hops, budget)
	case api.AskLoop:
		answer, errno = query.Loop(k.net, from, where, a.Hops, budget)
	case api.AskLost:
		answer, errno = query.Lost(k.net, from, where, a.Hops, budget)
	case api.AskIsolate:
		p, first := model.Zone(k.config, a.From)
		q, second := model.Zone(k.config, a.To)
		if first != api.OK || second != api.OK {
			return api.Reply{}, first + second
		}
		answer, errno = query.Isolate(k.net, p, q, a.Hops, budget)
	case api.AskPath:
		answer, errno = trail.Find(k.net, from, where, a.Along, a.Hops, budget)
	case api.AskAvoid:
		answer, errno = trail.Avoid(k.net, from, to, where, a.Along, a.Hops, budget)
	case api.AskCover:
		return k.toldCover(a, budget)
	case api.AskTrace:
		return k.toldTrace(a), api.OK
	}
	return api.Reply{
		Kind: a.Kind, Found: answer.Found, Space: answer.Space, Witness: answer.Witness, Final: answer.Final,
		Ports: names(k.ports, answer.Ports), Entries: names(k.entries, answer.Entries),
	}, errno
}

func (k known) toldCover(a api.Ask, budget int) (api.Reply, api.Errno) {
	doors, _ := cover.Doors(k.net)
	c, errno := cover.Cover(k.net, doors, a.Hops, budget)
	r := api.Reply{Kind: api.AskCover, Found: len(c.Dead) != 0}
	for _, p := range c.Packets {
		r.Lines = append(r.Lines, fmt.Sprintf("test %s %s meets %s", k.ports[p.Port], p.Header, strings.Join(names(k.entries, p.Hits), ", ")))
	}
	for _, d := range c.Dead {
		r.Lines = append(r.Lines, fmt.Sprintf("dead %s %s", k.entries[d.Entry], []string{"", "empty", "hidden", "unmet"}[d.Why]))
	}
	return r, errno
}

// header: all fields 0, but those that are set.
func (k known) header(sets []api.Set) string {
	values := make([]int, len(k.config.Fields))
	for at, f := range k.config.Fields {
		for _, s := range sets {
			if s.Field == f.Name {
				values[at] = s.Value
			}
		}
	}
	header, _ := field.Pack(k.config.Fields, values)
	return header
}

func (k known) toldTrace(a api.Ask) api.Reply {
	r := api.Reply{Kind: api.AskTrace, Space: "none"}
	header := k.header(a.Sets)
	count := 0
	for p := range step.Paths(k.net, api.State{Port: k.port(a.From), Header: header}, a.Hops) {
		if count++; count > 16 {
			r.More = true
			break
		}
		r.Lines = append(r.Lines, strings.Join(names(k.ports, p.Ports), " "))
		last := k.net.Ports[p.Ports[len(p.Ports)-1]]
		if !last.In && last.To == -1 && !r.Found {
			r = api.Reply{
				Kind: api.AskTrace, Found: true, Space: header, Witness: header, Final: p.Header,
				Ports: names(k.ports, p.Ports), Entries: names(k.entries, p.Entries), Lines: r.Lines,
			}
		}
	}
	return r
}

// toldText: what Run is to answer for queries that the network has all for.
func (k known) toldText(text string) string {
	asks, budget, _, _ := run.Parse(text)
	var list []api.Reply
	for _, a := range asks {
		r, errno := k.told(a, budget)
		if errno != api.OK {
			return whole(api.Result{Kind: api.ResultBudget, Code: errno})
		}
		list = append(list, r)
	}
	return whole(api.Result{Kind: api.ResultReplies, Replies: list})
}

// whole: all that a Result holds, in lists that are empty and in nil ones alike.
func whole(r api.Result) string {
	text := fmt.Sprint("kind ", r.Kind, " code ", int(r.Code), " text ", r.Text, " line ", r.Line)
	for _, a := range r.Replies {
		text += fmt.Sprintf("; %d %v %q %q %q %q %q %q %v", a.Kind, a.Found, a.Space, a.Witness, a.Ports, a.Entries, a.Final, a.Lines, a.More)
	}
	return text
}

func TestRepliesByASecondTelling(t *testing.T) {
	s := source(41)
	found, none, lines, more, over := map[int]int{}, map[int]int{}, 0, 0, 0
	for range 700 {
		k, ok := knownOf(t, s.network(t))
		if !ok {
			continue
		}
		text := s.queries(k.config)
		r := run.Run(k.text, text)
		if got, want := whole(r), k.toldText(text); got != want {
			t.Fatalf("P17.3: %q of\n%s: %s; want %s", text, k.text, got, want)
		}
		if r.Kind == api.ResultBudget {
			over++
		}
		for _, reply := range r.Replies {
			if reply.Found {
				found[reply.Kind]++
			} else {
				none[reply.Kind]++
			}
			if lines += len(reply.Lines); reply.More {
				more++
			}
		}
	}
	for kind := api.AskReach; kind <= api.AskTrace; kind++ {
		if found[kind] < 20 || none[kind] < 20 {
			t.Errorf("the trial shows less than it should: %d: %d, %d", kind, found[kind], none[kind])
		}
	}
	if lines < 500 || more < 5 || over < 20 {
		t.Errorf("the trial shows less than it should: %d, %d, %d", lines, more, over)
	}
}

func checkReply(t *testing.T, config, query, want string) {
	t.Helper()
	check(t, "P17.3: "+query, "\n"+rendered(config, query), want)
}

// A cover query with doors: packets with several hits, and dead entries of each reason.
func TestCoverInWords(t *testing.T) {
	const config = `
header dst:4 tag:2
box A
  in a b
  out c
  rule 70000 match any drop
`
	const doors = `
header dst:4 tag:2
routing dst
box A
  in a
  out c
  rule 9 match tag = 3 set tag = 0 to c
  rule 8 match none to c
  rule 7 match tag = 3 & dst = 1 to c
  rule 6 match dst < 8 to c
box B
  in a
  out b
  rule 2 match tag = 3 drop
  own 8/1 to b
  route 0/0 to b
link A.c -> B.a
`
	checkReply(t, doors, "cover hops 3", `
cover: found
  test A.a 000011 meets A rule 9, B route 0.0.0.0/0
  test A.a 100000 meets A way 0.0.0.8/1, B own 0.0.0.8/1
  test A.a 000000 meets A rule 6, B route 0.0.0.0/0
  dead A rule 8 empty
  dead A rule 7 hidden
  dead B rule 2 unmet
`)
	checkReply(t, doors, "cover hops 0", `
cover: found
  dead A rule 9 unmet
  dead A rule 8 empty
  dead A rule 7 hidden
  dead A rule 6 unmet
  dead A way 0.0.0.8/1 unmet
  dead B rule 2 unmet
  dead B own 0.0.0.8/1 unmet
  dead B route 0.0.0.0/0 unmet
`)
	checkReply(t, strings.Replace(config, "70000", "65535", 1), "cover hops 1", `
cover: none
  test A.a 000000 meets A rule 65535
`)
	check(t, "P17.2: a priority", rendered(config, "cover hops 1"), "ill-formed 76 in the configuration\n")
	checkReply(t, "header a:1", "cover hops 1", "\ncover: none\n")
	r := run.Run(doors, "cover hops 3").Replies[0]
	if r.Space+r.Witness+r.Final != "" || len(r.Ports)+len(r.Entries) > 0 || r.More {
		t.Errorf("P17.3: cover tells more than its lines: %+v", r)
	}
}

// fanText: a box whose rule sends to four ports, of which so many are linked to the next of its boxes, which does the same.
const fanText = `header a:1 b:2
box A
  in i
  out o p q r
  rule 1 match any set b = 1 to o, p, q, r
box B
  in i j k l
  out o p q r s
  guard q deny b = 1
  rule 1 match any to o, p, q, r
  rule 2 from l match any drop
link A.o -> B.i
link A.p -> B.j
link A.q -> B.k
link A.r -> B.l
`

func TestTraceInWords(t *testing.T) {
	checkReply(t, fanText, "trace A.i set a = 1 hops 4", `
trace: found
  space 100
  witness 100
  path A.i A.o B.i B.o
  by A rule 1, B rule 1
  final 101
  A.i A.o B.i B.o
  A.i A.o B.i B.p
  A.i A.o B.i B.r
  A.i A.p B.j B.o
  A.i A.p B.j B.p
  A.i A.p B.j B.r
  A.i A.q B.k B.o
  A.i A.q B.k B.p
  A.i A.q B.k B.r
  A.i A.r B.l
`)
	checkReply(t, fanText, "trace A.i hops 1", `
trace: none
  space none
  A.i A.o B.i
  A.i A.p B.j
  A.i A.q B.k
  A.i A.r B.l
`)
	checkReply(t, fanText, "trace A.i set b = 2 hops 0", "\ntrace: none\n  space none\n  A.i\n")
	checkReply(t, fanText, "trace B.l hops 4", "\ntrace: none\n  space none\n  B.l\n")
	checkReply(t, fanText, "trace A.r set b = 3 hops 4", "\ntrace: none\n  space none\n  A.r B.l\n")
	checkReply(t, fanText, "trace B.s set b = 3, a = 1 hops 0", "\ntrace: found\n  space 111\n  witness 111\n  path B.s\n  final 111\n  B.s\n")
}

// Sixteen paths are told, and whether there are more; what is found is found among these alone.
func TestTraceTellsSixteenPaths(t *testing.T) {
	// Each entry sends back to its box by o, and on by the others.
	back := func(outs int, linked string) string {
		all := []string{"o", "p", "q", "r"}[:outs]
		return "header a:1\nbox A\nin i\nout o p q r s\nrule 1 match any to " + strings.Join(all, ", ") + "\n" + linked
	}
	for _, e := range []struct {
		config string
		hops   int
		lines  int
		found  bool
		more   bool
	}{
		{back(2, "link A.o -> A.i\n"), 14, 15, true, false},
		{back(2, "link A.o -> A.i\n"), 15, 16, true, false},
		{back(2, "link A.o -> A.i\n"), 16, 16, true, true},
		{back(2, "link A.o -> A.i\n"), 64, 16, true, true},
		{back(2, "link A.o -> A.i\nlink A.p -> A.i\n"), 3, 8, false, false},
		{back(2, "link A.o -> A.i\nlink A.p -> A.i\n"), 4, 16, false, false},
		{back(2, "link A.o -> A.i\nlink A.p -> A.i\n"), 5, 16, false, true},
		{back(4, "link A.o -> A.i\nlink A.p -> A.i\nlink A.q -> A.i\n"), 64, 16, true, true},
		{back(4, "link A.o -> A.i\nlink A.p -> A.i\nlink A.q -> A.i\nlink A.r -> A.i\n"), 64, 16, false, true},
		{back(3, "link A.o -> A.i\nlink A.p -> A.i\n"), 64, 16, true, true},
		{back(4, "link A.o -> A.i\nlink A.p -> A.i\n"), 2, 16 - 6, true, false},
	} {
		r := run.Run(e.config, fmt.Sprintln("trace A.i hops", e.hops))
		if r.Kind != api.ResultReplies || len(r.Replies) != 1 {
			t.Fatalf("P17.3: %s: %+v", e.config, r)
		}
		got := r.Replies[0]
		if len(got.Lines) != e.lines || got.Found != e.found || got.More != e.more {
			t.Errorf("P17.3: hops %d of %s: %d lines, found %v, more %v", e.hops, e.config, len(got.Lines), got.Found, got.More)
		}
		if at := slices.Index(got.Lines, strings.Join(got.Ports, " ")); e.found != (at >= 0) {
			t.Errorf("P17.3: hops %d of %s: the path found is line %d", e.hops, e.config, at)
		}
	}
	// A path that leaves the network only behind the sixteenth is not found.
	late := "header a:1\nbox A\nin i\nout o p q r s\nrule 1 match any to o, p\nlink A.o -> B.i\nbox B\nin i j\nout o p\nrule 1 match any to o, p\nlink B.o -> B.i\nlink B.p -> B.j\n"
	r := run.Run(late, "trace A.i hops 4\ntrace A.i hops 5\ntrace A.i hops 6")
	for at, want := range []string{"true false 9", "false true 16", "false true 16"} {
		got := r.Replies[at]
		check(t, fmt.Sprint("P17.3: the path out is the last one, hops ", 4+at), fmt.Sprint(got.Found, " ", got.More, " ", len(got.Lines)), want)
	}
}

// The budget goes to every query anew, and so does each query's own bound of hops.
func TestQueriesDoNotChangeOneAnother(t *testing.T) {
	s := source(42)
	for range 200 {
		c := s.network(t)
		text, want := "", ""
		for range 1 + s.below(api.MaxQueries) {
			line := s.asked(c, 1+s.below(9), s.below(7))
			if line == "" {
				continue
			}
			text += line
			want += rendered(printed(t, c), line)
		}
		if text == "" {
			continue
		}
		if strings.Contains(want, "budget exceeded") {
			want = "budget exceeded\n"
		}
		check(t, fmt.Sprintf("P17.2: %q of %s", text, printed(t, c)), rendered(printed(t, c), text), want)
	}
}
