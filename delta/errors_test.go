package delta_test

// P16.1: the errors of Compare and their order; the errors of Changes.

import (
	"fmt"
	"math"
	"strings"
	"testing"

	"reach/api"
	"reach/conf"
	"reach/delta"
	"reach/lower"
)

func noPorts() []int   { return []int{-1, -2, 4, 5, 48, 1 << 32, math.MaxInt, math.MinInt} }
func noHops() []int    { return []int{-1, -2, api.MaxHops + 1, 1 << 32, math.MaxInt, math.MinInt} }
func noBudgets() []int { return []int{0, -1, api.MaxBudget + 1, 1 << 32, math.MaxInt, math.MinInt} }

// bad: something to ask of which each part may be wrong.
type bad struct {
	long, netA, netB, unlike, from, to, where, hops, budget bool
}

// asking: a network, and one beside it; with all that is wrong.
func (w bad) asking() asking {
	a := asking{guarded(9, nil), guarded(9, antichain(9, 7)), 0, 3, x(9), 1, most}
	if w.where {
		a.where = x(8)
	}
	if w.long {
		a.where = strings.Repeat("x", api.MaxSpaceText+1)
	}
	if w.netA {
		a.a.Guards = a.a.Guards[:3]
	}
	if w.netB {
		a.b.Tables[0][0].Write = "?"
	}
	if w.unlike {
		a.b.Ports[2].Name = "R.e"
	}
	if w.from {
		a.from = 4
	}
	if w.to {
		a.to = -1
	}
	if w.hops {
		a.hops = 65
	}
	if w.budget {
		a.budget = 0
	}
	return a
}

// want: the error that comes first.
func (w bad) want() string {
	switch {
	case w.long:
		return "error 2"
	case w.netA || w.netB:
		return "error 90"
	case w.unlike:
		return "error 160"
	case w.from || w.to:
		return "error 120"
	case w.where:
		return "error 20"
	case w.hops || w.budget:
		return "error 1"
	}
	return strings.Join(append([]string{x(9)}, numbers(7, 8, "", "x")...), "-")
}

// All that can be wrong together, in every choice.
func TestTheOrderOfErrors(t *testing.T) {
	for n := range 1 << 9 {
		is := func(bit int) bool { return n>>bit&1 == 1 }
		w := bad{is(0), is(1), is(2), is(3), is(4), is(5), is(6), is(7), is(8)}
		got := w.asking().compare()
		if n == 0 {
			got = strings.TrimPrefix(got, "none from 0; ")
			got, _, _ = strings.Cut(got, " ")
		}
		check(t, fmt.Sprintf("P16.1: %+v", w), got, w.want())
	}
}

func TestNumbersThatMayNotBe(t *testing.T) {
	a, b := guarded(2, nil), plain(2)
	for _, port := range noPorts() {
		check(t, fmt.Sprint("P16.1: from ", port), compare(a, b, port, 3, "x", -1, 0), "error 120")
		check(t, fmt.Sprint("P16.1: to ", port), compare(a, b, 0, port, "x", -1, 0), "error 120")
	}
	for _, where := range []string{"", "x", "xxx", "xx+", "xx--00", " xx", "NONE", "\xff", strings.Repeat("x", api.MaxSpaceText)} {
		check(t, fmt.Sprintf("P16.1: where %.20q", where), compare(a, b, 0, 3, where, -1, 0), "error 20")
	}
	check(t, "P16.1: where", compare(a, b, 0, 3, strings.Repeat("xx+", 128)+"xx", -1, 0), "error 3")
	check(t, "P16.1: where", compare(a, b, 0, 3, strings.Repeat("xx+", 127)+"xx", 1, most), "none from 0; xx from 0: 00 [0 3] [0] 00")
	for _, length := range []int{api.MaxSpaceText + 1, 1 << 20} {
		check(t, "P16.1: a long where", compare(api.Net{}, b, -1, -1, strings.Repeat("x", length), -1, 0), "error 2")
	}
	for _, hops := range noHops() {
		check(t, fmt.Sprint("P16.1: hops ", hops), compare(a, b, 0, 3, "xx", hops, 1), "error 1")
	}
	for _, budget := range noBudgets() {
		check(t, fmt.Sprint("P16.1: budget ", budget), compare(a, b, 0, 3, "xx", 1, budget), "error 1")
	}
	for _, hops := range []int{1, api.MaxHops} {
		for _, budget := range []int{2, api.MaxBudget} {
			check(t, fmt.Sprint("P16.2: ", hops, budget), compare(a, b, 0, 3, "xx", hops, budget), "none from 0; xx from 0: 00 [0 3] [0] 00")
		}
	}
}

// What the walk in a says comes ahead of what the walk in b says: both are the same error there, or a's walk alone is refused, or b's.
func TestBothWalksAreAsked(t *testing.T) {
	fine, dear := guarded(9, nil), guarded(9, antichain(9, 129))
	for _, q := range [][2]api.Net{{fine, dear}, {dear, fine}, {dear, dear}} {
		check(t, "P16.1", compare(q[0], q[1], 0, 3, x(9), 1, most), "error 3")
		check(t, "P16.1", compare(q[0], q[1], 0, 4, x(9), 1, most), "error 120")
		check(t, "P16.1", compare(q[0], q[1], 0, 3, x(8), 1, most), "error 20")
		check(t, "P16.1", compare(q[0], q[1], 0, 3, x(9), 65, most), "error 1")
	}
}

func TestNetworksThatAreUnlike(t *testing.T) {
	for what, do := range map[string]func(n *api.Net){
		"more bits": func(n *api.Net) { *n = guarded(3, nil) },
		"no port":   func(n *api.Net) { *n = api.Net{Bits: 2, Tables: n.Tables[:0]} },
		"a port more": func(n *api.Net) {
			n.Ports, n.Guards = append(n.Ports, api.Port{Name: "R.z", To: -1}), append(n.Guards, nil)
		},
		"a port less":     func(n *api.Net) { n.Tables[0][0].Outs = nil; n.Ports, n.Guards = n.Ports[:3], n.Guards[:3] },
		"another name":    func(n *api.Net) { n.Ports[1].Name = "R.z" },
		"the last's name": func(n *api.Net) { n.Ports[3].Name = "R.A" },
		"names change":    func(n *api.Net) { n.Ports[2].Name, n.Ports[3].Name = n.Ports[3].Name, n.Ports[2].Name },
		"another box":     func(n *api.Net) { n.Tables, n.Ports[1].Box = append(n.Tables, nil), 1 },
		"the last's box":  func(n *api.Net) { n.Tables[0][0].Outs = nil; n.Tables, n.Ports[3].Box = append(n.Tables, nil), 1 },
		"the other side":  func(n *api.Net) { n.Ports[2].To, n.Ports[1].In = -1, false },
		"the last's side": func(n *api.Net) { n.Tables[0][0].Outs = nil; n.Ports[3].In = true },
		"bits, no entry":  func(n *api.Net) { n.Bits = 3; n.Tables[0] = nil },
	} {
		a, b := guarded(2, nil), guarded(2, nil)
		do(&b)
		if lower.Valid(b) != api.OK {
			t.Fatalf("%s: no network", what)
		}
		for _, q := range [][2]api.Net{{a, b}, {b, a}} {
			check(t, "P16.1: "+what, compare(q[0], q[1], 0, 3, "xx", 1, 9), "error 160")
			check(t, "P16.1: "+what, compare(q[0], q[1], -1, 9, "?", -1, 0), "error 160")
		}
		if compare(b, b, 0, 3, x(b.Bits), 1, 9) == "error 160" {
			t.Errorf("P16.1: %s: unlike itself", what)
		}
	}
}

// What may be another one: where links lead, tables, guards, entries' names, and boxes without ports.
func TestNetworksThatAreLikeEnough(t *testing.T) {
	a, b := plain(2, send([]string{"xx"}, 2), api.Entry{Ins: []int{1}, Cubes: []string{"1x"}, Write: "x0", Outs: []int{3}}), plain(2)
	b.Ports[2].To, b.Ports[3].To = -1, 1
	b.Tables = [][]api.Entry{{{Name: "e", Ins: []int{0, 1}, Cubes: []string{"x1"}, Write: "0x", Outs: []int{3, 2}}}, nil, {{Write: "xx"}}}
	b.Guards[3] = []api.Guard{{Permit: true, Cubes: []string{"0x"}}}
	// In a 1x comes to 3 by 2 and 1; in b x1 does so at once, and goes round.
	check(t, "P16.2", compare(a, b, 0, 3, "xx", 2, 50), "x1-11 from 0: 01 [0 3] [0] 01; 1x-11 from 0: 10 [0 2 1 3] [0 1] 10")
	check(t, "P16.2", compare(b, a, 0, 3, "xx", 2, 50), "1x-11 from 0: 10 [0 2 1 3] [0 1] 10; x1-11 from 0: 01 [0 3] [0] 01")
	check(t, "P16.2", compare(a, b, 2, 1, "xx", 0, 50), "none from 2; xx from 2: 00 [2 1] [] 00")
	check(t, "P16.2", compare(a, b, 3, 1, "0x", 0, 50), "0x from 3: 00 [3 1] [] 00; none from 3")
}

func TestNetworksThatAreNone(t *testing.T) {
	for what, do := range map[string]func(n *api.Net){
		"no bits":            func(n *api.Net) { n.Bits = 0 },
		"other bits":         func(n *api.Net) { n.Bits = 9 },
		"no tables":          func(n *api.Net) { n.Tables = nil },
		"no guards":          func(n *api.Net) { n.Guards = nil },
		"a link to an out":   func(n *api.Net) { n.Ports[2].To = 3 },
		"a link far off":     func(n *api.Net) { n.Ports[2].To = 1 << 40 },
		"no word":            func(n *api.Net) { n.Tables[0][0].Write = "" },
		"no cube of a guard": func(n *api.Net) { n.Guards[3] = []api.Guard{{Cubes: []string{"0?"}}} },
		"an out far off":     func(n *api.Net) { n.Tables[0][0].Outs[0] = -1 },
		"a name twice":       func(n *api.Net) { n.Ports[3].Name = "R.a" },
		"all of it":          func(n *api.Net) { *n = api.Net{} },
	} {
		fine, none := guarded(2, nil), guarded(2, nil)
		do(&none)
		for _, q := range [][2]api.Net{{fine, none}, {none, fine}, {none, none}} {
			check(t, "P16.1: "+what, compare(q[0], q[1], 0, 3, "xx", 1, 9), "error 90")
			check(t, "P16.1: "+what, compare(q[0], q[1], -1, -1, "?", -1, 0), "error 90")
		}
	}
}

// Networks without a port, or without a header in where.
func TestBareNetworks(t *testing.T) {
	check(t, "P16.1: no port", compare(api.Net{Bits: 2}, api.Net{Bits: 2}, 0, 0, "xx", 1, 9), "error 120")
	check(t, "P16.2: no entry", compare(plain(2), plain(2), 0, 3, "xx", 1, 9), "none from 0; none from 0")
	check(t, "P16.2: no header", compare(plain(2), guarded(2, nil), 0, 3, "none", 1, 9), "none from 0; none from 0")
	// A term without a header comes nowhere, and takes nothing away.
	check(t, "P16.2: no header", compare(plain(2), guarded(2, nil), 0, 3, "xx-0x-1x", 1, 9), "none from 0; none from 0")
	check(t, "P16.2: no header", compare(guarded(2, nil), plain(2), 0, 0, "xx-0x-1x", 1, 9), "none from 0; none from 0")
}

func changes(a, b api.Config) string {
	lines, errno := delta.Changes(a, b)
	if errno != api.OK {
		if len(lines) != 0 {
			return fmt.Sprintf("W3: the error %d beside %q", errno, lines)
		}
		return fmt.Sprint("error ", errno)
	}
	return strings.Join(lines, "; ")
}

// P16.3: the errors of model.Check, a's first; then what no line tells of.
func TestErrorsOfChanges(t *testing.T) {
	fine := read(t, labText)
	linked := edited(t, fine, "no box B")
	doubled := read(t, labText+"box A\n")
	check(t, "P16.3", changes(linked, doubled), "error 73")
	check(t, "P16.3", changes(doubled, linked), "error 72")
	check(t, "P16.3", changes(fine, doubled), "error 72")
	check(t, "P16.3", changes(linked, fine), "error 73")
	check(t, "P16.3", changes(linked, linked), "error 73")
	check(t, "P16.3", changes(api.Config{}, api.Config{}), "error 70")
	check(t, "P16.3", changes(fine, api.Config{}), "error 70")
	check(t, "P16.3", changes(fine, fine), "")
	for what, do := range map[string]func(c *api.Config){
		"Title":              func(c *api.Config) { c.Title = "Lab" },
		"no Title":           func(c *api.Config) { c.Title = "" },
		"a field more":       func(c *api.Config) { c.Fields = append(c.Fields, api.Field{Name: "ttl", Bits: 8}) },
		"a field's bits":     func(c *api.Config) { c.Fields[1].Bits = 3 },
		"fields' order":      func(c *api.Config) { c.Fields[0], c.Fields[1] = c.Fields[1], c.Fields[0] },
		"Slim":               func(c *api.Config) { c.Slim = true },
		"Routing, Title":     func(c *api.Config) { c.Routing, c.Title = "", "l"; c.Boxes[1].Owns = nil },
		"Routing":            func(c *api.Config) { c.Routing = "tag"; c.Boxes[1].Owns = nil },
		"no Routing":         func(c *api.Config) { c.Routing = ""; c.Boxes[1].Owns = nil },
		"Slim, another rule": func(c *api.Config) { c.Slim, c.Boxes[1].Rules = true, nil },
	} {
		other := read(t, labText)
		do(&other)
		check(t, "P16.3: "+what, changes(fine, other), "error 160")
		check(t, "P16.3: "+what, changes(other, fine), "error 160")
		check(t, "P16.3: "+what, changes(other, other), "")
		check(t, "P16.3: "+what, changes(linked, other), "error 73")
		check(t, "P16.3: "+what, changes(other, doubled), "error 72")
	}
	// A field's name, in all that names it.
	renamed := read(t, strings.ReplaceAll(labText, "tag", "tug"))
	check(t, "P16.3: a field's name", changes(fine, renamed), "error 160")
	if conf.Same(fine, renamed) {
		t.Error("the networks are the same")
	}
}

// Lists of any length: model.Check tells of them.
func TestLongLists(t *testing.T) {
	fine := read(t, labText)
	long := read(t, labText)
	long.Boxes = make([]api.Box, 1<<20)
	check(t, "P16.3", changes(fine, long), "error 71")
	check(t, "P16.3", changes(long, fine), "error 71")
	long = read(t, labText)
	long.Title = strings.Repeat("t", 1<<20)
	check(t, "P16.3", changes(long, fine), "error 71")
	long = read(t, labText)
	long.Boxes[0].Rules[0].From = make([]string, 1<<20)
	check(t, "P16.3", changes(fine, long), "error 73")
}
