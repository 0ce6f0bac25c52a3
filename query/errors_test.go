package query_test

// P13.1: the errors and their order.

import (
	"fmt"
	"math"
	"strings"
	"testing"

	"reach/api"
	"reach/lower"
	"reach/query"
)

// farOff: numbers that are no port's of a network with so many ports.
func farOff(ports int) []int {
	return []int{-1, -2, ports, ports + 1, 48, 99, 1 << 32, math.MaxInt, math.MinInt}
}

// noHops and noBudgets: W9.
func noHops() []int    { return []int{-1, -2, api.MaxHops + 1, 1 << 32, math.MaxInt, math.MinInt} }
func noBudgets() []int { return []int{0, -1, api.MaxBudget + 1, 1 << 32, math.MaxInt, math.MinInt} }

// noForms: texts that are no space of two bits.
func noForms() []string {
	return []string{"", "x", "xxx", "xy", "NONE", "none+xx", "xx+", "+xx", "xx--0x", " xx", "xx ", "xx-none", "\xff\xfe", "xx\x00", strings.Repeat("?", api.MaxSpaceText)}
}

// tooLong and tooMany: a space's text of one byte too many, and one of one cube too many.
func tooLong() string { return strings.Repeat("x", api.MaxSpaceText+1) }
func tooMany() string { return strings.Repeat("xx+", api.MaxCubes) + "xx" }

// brokenNet: no network.
func brokenNet() api.Net {
	n := exampleNet()
	n.Bits = 3
	return n
}

// checkTo: what Reach and Missed say.
func checkTo(t *testing.T, what string, n api.Net, from, to int, where string, hops, budget int, want api.Errno) {
	t.Helper()
	what = fmt.Sprintf("P13.1: %s: %d, %d, %.60q, %d, %d", what, from, to, where, hops, budget)
	line := fmt.Sprint("error ", want)
	check(t, what+": Reach", reach(n, from, to, where, hops, budget), line)
	check(t, what+": Missed", missed(n, from, to, where, hops, budget), line)
}

// checkFrom: what all questions say that have a port to begin at.
func checkFrom(t *testing.T, what string, n api.Net, from int, where string, hops, budget int, want api.Errno) {
	t.Helper()
	checkTo(t, what, n, from, 0, where, hops, budget, want)
	what = fmt.Sprintf("P13.1: %s: %d, %.60q, %d, %d", what, from, where, hops, budget)
	line := fmt.Sprint("error ", want)
	check(t, what+": Loop", loop(n, from, where, hops, budget), line)
	check(t, what+": Lost", lost(n, from, where, hops, budget), line)
}

func checkZones(t *testing.T, what string, n api.Net, p, q api.Zone, hops, budget int, want api.Errno) {
	t.Helper()
	check(t, fmt.Sprintf("P13.1: %s: Isolate: %.200s, %.200s, %d, %d", what, fmt.Sprint(p), fmt.Sprint(q), hops, budget), isolate(n, p, q, hops, budget), fmt.Sprint("error ", want))
}

// The errors one behind the other: each stands ahead of all that come later, and behind all that come earlier.
func TestTheOrderOfErrors(t *testing.T) {
	n, broken := exampleNet(), brokenNet()
	checkFrom(t, "long", broken, 9, tooLong(), -1, 0, api.ErrLong)
	checkFrom(t, "long", n, 0, tooLong(), 2, 10, api.ErrLong)
	checkFrom(t, "long", n, 0, strings.Repeat("xx+", 1<<20), 2, 10, api.ErrLong)
	checkTo(t, "long", broken, 0, 9, tooLong(), -1, 0, api.ErrLong)
	checkFrom(t, "no network", broken, 9, tooLong()[1:], -1, 0, api.ErrNet)
	checkFrom(t, "no network", broken, 0, "xx", 2, 10, api.ErrNet)
	checkTo(t, "no network", broken, 0, 9, "???", -1, 0, api.ErrNet)
	for _, port := range farOff(5) {
		for _, where := range []string{"???", tooMany(), "xx"} {
			checkFrom(t, "no start", n, port, where, -1, 0, api.ErrStart)
			checkFrom(t, "no start", n, port, where, 2, 10, api.ErrStart)
			checkTo(t, "no end", n, 0, port, where, -1, 0, api.ErrStart)
			checkTo(t, "no end", n, 0, port, where, 2, 10, api.ErrStart)
			checkTo(t, "neither", n, port, port, where, 2, 10, api.ErrStart)
		}
	}
	for _, where := range noForms() {
		checkFrom(t, "no space", n, 0, where, -1, 0, api.ErrForm)
		checkFrom(t, "no space", n, 4, where, 2, 10, api.ErrForm)
	}
	checkFrom(t, "a space that is too great", n, 0, tooMany(), -1, 0, api.ErrBudget)
	checkFrom(t, "a space that is too great", n, 0, tooMany(), 2, 10, api.ErrBudget)
	for _, hops := range noHops() {
		checkFrom(t, "no hops", n, 0, "xx", hops, 0, api.ErrArg)
		checkFrom(t, "no hops", n, 0, "none", hops, 10, api.ErrArg)
	}
	for _, budget := range noBudgets() {
		checkFrom(t, "no budget", n, 0, "xx", 2, budget, api.ErrArg)
		checkFrom(t, "no budget", n, 4, "none", 0, budget, api.ErrArg)
	}
}

// ports: so many times the port 0.
func ports(count int) []int { return make([]int, count) }

func TestTheOrderOfErrorsOfIsolate(t *testing.T) {
	n, broken := exampleNet(), brokenNet()
	well, wrong := zone("xx", 0), zone("?", 9)
	for _, long := range []api.Zone{zone(tooLong(), 0), zone("xx", ports(api.MaxPorts+1)...), zone("?", append(ports(api.MaxPorts), 9)...), zone(tooLong(), ports(1000)...)} {
		checkZones(t, "p is long", broken, long, wrong, -1, 0, api.ErrLong)
		checkZones(t, "q is long", broken, wrong, long, -1, 0, api.ErrLong)
		checkZones(t, "p is long", n, long, well, 2, 10, api.ErrLong)
		checkZones(t, "q is long", n, well, long, 2, 10, api.ErrLong)
		checkZones(t, "both are long", n, long, long, 2, 10, api.ErrLong)
	}
	checkZones(t, "no network", broken, wrong, wrong, -1, 0, api.ErrNet)
	checkZones(t, "no network", broken, well, well, 2, 10, api.ErrNet)
	checkZones(t, "no network", broken, zone("xx"), well, 2, 10, api.ErrNet)
	for _, port := range farOff(5) {
		checkZones(t, "p's port", n, zone("?", port), wrong, -1, 0, api.ErrStart)
		checkZones(t, "p's second port", n, zone(tooMany(), 0, port), zone("?"), -1, 0, api.ErrStart)
		checkZones(t, "p's third port", n, zone("xx", 0, 0, port, 1), zone("xx", 0), 2, 10, api.ErrStart)
		checkZones(t, "q's port", n, well, zone("?", port), -1, 0, api.ErrStart)
		checkZones(t, "q's second port", n, well, zone(tooMany(), 0, port, 4), 2, 10, api.ErrStart)
		checkZones(t, "q's port, and none to begin at", n, zone("xx"), zone("xx", port), 2, 10, api.ErrStart)
	}
	for _, where := range noForms() {
		checkZones(t, "p's space", n, zone(where, 0), wrong, -1, 0, api.ErrForm)
		checkZones(t, "p's space, without a port", n, zone(where), well, 2, 10, api.ErrForm)
		checkZones(t, "q's space", n, well, zone(where, 0), -1, 0, api.ErrForm)
		checkZones(t, "q's space, without a port", n, zone("xx"), zone(where), 2, 10, api.ErrForm)
	}
	checkZones(t, "p's space is too great", n, zone(tooMany(), 0), wrong, -1, 0, api.ErrBudget)
	checkZones(t, "p's space is too great, without a port", n, zone(tooMany()), well, 2, 10, api.ErrBudget)
	checkZones(t, "q's space is too great", n, well, zone(tooMany(), 0), -1, 0, api.ErrBudget)
	checkZones(t, "q's space is too great, without a port", n, zone("xx"), zone(tooMany()), 2, 10, api.ErrBudget)
	for _, p := range []api.Zone{well, zone("xx"), zone("none", 0)} {
		for _, hops := range noHops() {
			checkZones(t, "no hops", n, p, well, hops, 0, api.ErrArg)
			checkZones(t, "no hops", n, p, well, hops, 10, api.ErrArg)
		}
		for _, budget := range noBudgets() {
			checkZones(t, "no budget", n, p, well, 2, budget, api.ErrArg)
		}
	}
}

// What the arguments say comes ahead of what the work says of the network.
func TestErrorsAheadOfTheWork(t *testing.T) {
	n := plain(9)
	n.Guards[3] = antichain(9, 129)
	well := zone(x(9), 0)
	checkFrom(t, "the guard", n, 0, x(9), 0, 10, api.ErrBudget)
	checkFrom(t, "long", n, 0, tooLong(), 0, 10, api.ErrLong)
	checkFrom(t, "no start", n, 4, x(9), 0, 10, api.ErrStart)
	checkTo(t, "no end", n, 0, 4, x(9), 0, 10, api.ErrStart)
	checkFrom(t, "no space", n, 0, x(8), 0, 10, api.ErrForm)
	checkFrom(t, "no hops", n, 0, x(9), 65, 10, api.ErrArg)
	checkFrom(t, "no budget", n, 0, x(9), 0, 0, api.ErrArg)
	checkZones(t, "the guard", n, well, zone("none"), 0, 10, api.ErrBudget)
	checkZones(t, "no start", n, well, zone(x(9), 4), 0, 10, api.ErrStart)
	checkZones(t, "no space", n, well, zone(x(8), 0), 0, 10, api.ErrForm)
	checkZones(t, "no hops", n, well, well, 65, 10, api.ErrArg)
	checkZones(t, "no budget", n, well, well, 0, 0, api.ErrArg)
	// Without a port to begin at nothing is walked.
	check(t, "P13.7: no port", isolate(n, zone(x(9)), well, 0, 10), "none from 0")
}

func TestNumbersAtTheEdge(t *testing.T) {
	n := exampleNet()
	for _, hops := range []int{2, 3, api.MaxHops - 1, api.MaxHops} {
		for _, budget := range []int{7, 8, api.MaxBudget - 1, api.MaxBudget} {
			check(t, "P13.1", reach(n, 0, 3, "xx", hops, budget), "0x from 0: 00 [0 1 2 3] [0 1] 10")
			check(t, "P13.1", missed(n, 0, 3, "xx", hops, budget), "xx-0x from 0: 10 [0] [] 10")
			check(t, "P13.1", loop(n, 0, "xx", hops, budget), "0x from 0: 00 [0 1 2 3 0] [0 1] 10")
			check(t, "P13.1", lost(n, 0, "xx", hops, budget), "none from 0")
			check(t, "P13.1", isolate(n, zone("xx", ports(api.MaxPorts)...), zone("11", 3, 3), hops, budget), "01 from 0: 01 [0 1 2 3] [0 1] 11")
			check(t, "P13.1", isolate(n, zone("1x", ports(api.MaxPorts)...), zone("11", append(ports(api.MaxPorts-1), 3)...), 0, budget), "11 from 0: 11 [0] [] 11")
		}
	}
	check(t, "P13.1", reach(n, 0, 0, "xx", 0, 1), "xx from 0: 00 [0] [] 00")
	check(t, "P13.1", missed(n, 0, 1, "xx", 0, 1), "xx from 0: 00 [0] [] 00")
	// A text of all the bytes that may be.
	most := strings.Repeat("x", 256) + strings.Repeat("-"+strings.Repeat("1", 256), 127)
	if wide := plain(256); len(most) > api.MaxSpaceText {
		t.Error("too long")
	} else {
		check(t, "P13.1", reach(wide, 3, 3, most, 0, 2), x(256)+"-"+strings.Repeat("1", 256)+" from 3: "+strings.Repeat("0", 256)+" [3] [] "+strings.Repeat("0", 256))
	}
}

func TestNetworksThatAreNone(t *testing.T) {
	for what, do := range map[string]func(n *api.Net){
		"no bits":              func(n *api.Net) { n.Bits = 0 },
		"other bits":           func(n *api.Net) { n.Bits = 9 },
		"no tables":            func(n *api.Net) { n.Tables = nil },
		"no guards":            func(n *api.Net) { n.Guards = nil },
		"a link to an out":     func(n *api.Net) { n.Ports[1].To = 3 },
		"a link far off":       func(n *api.Net) { n.Ports[1].To = 1 << 40 },
		"a link of an in-port": func(n *api.Net) { n.Ports[0].To = 2 },
		"a box that is none":   func(n *api.Net) { n.Ports[0].Box = 7 },
		"no word":              func(n *api.Net) { n.Tables[0][0].Write = "" },
		"no cube":              func(n *api.Net) { n.Tables[1][1].Cubes = []string{"xx", "x"} },
		"no cube of a guard":   func(n *api.Net) { n.Guards[3] = []api.Guard{{Cubes: []string{"0?"}}} },
		"an out far off":       func(n *api.Net) { n.Tables[0][0].Outs[0] = -1 },
		"a name twice":         func(n *api.Net) { n.Ports[3].Name = "R1.a" },
		"all of it":            func(n *api.Net) { *n = api.Net{} },
	} {
		n := exampleNet()
		do(&n)
		if lower.Valid(n) == api.OK {
			t.Fatalf("%s is a network", what)
		}
		checkFrom(t, what, n, 0, "xx", 2, 10, api.ErrNet)
		checkFrom(t, what, n, -1, "", -1, 0, api.ErrNet)
		checkTo(t, what, n, 0, -1, "", -1, 0, api.ErrNet)
		checkZones(t, what, n, zone("xx", 0), zone("xx", 0), 2, 10, api.ErrNet)
		checkZones(t, what, n, zone("", -1), zone("", -1), -1, 0, api.ErrNet)
		if errno := query.Replay(n, api.Answer{}); errno != api.ErrNet {
			t.Errorf("P13.10: %s: %d", what, errno)
		}
	}
	bare := api.Net{Bits: 2}
	checkFrom(t, "no port to begin at", bare, 0, "xx", 2, 10, api.ErrStart)
	checkZones(t, "no port to begin at", bare, zone("xx", 0), zone("xx"), 2, 10, api.ErrStart)
	checkZones(t, "no port to come to", bare, zone("xx"), zone("xx", 0), 2, 10, api.ErrStart)
	check(t, "P13.7: no port at all", isolate(bare, zone("xx"), zone("xx"), 2, 10), "none from 0")
}
