package trail_test

// P14.4, P14.5: the errors and their order.

import (
	"fmt"
	"math"
	"strings"
	"testing"

	"reach/api"
	"reach/lower"
)

// farOff: numbers that are no port's of a network with so many ports.
func farOff(ports int) []int {
	return []int{-1, -2, ports, ports + 1, 48, 99, 1 << 32, math.MaxInt, math.MinInt}
}

// noHops and noBudgets: W9.
func noHops() []int    { return []int{-1, -2, api.MaxHops + 1, 1 << 32, math.MaxInt, math.MinInt} }
func noBudgets() []int { return []int{0, -1, api.MaxBudget + 1, 1 << 32, math.MaxInt, math.MinInt} }

// noForms: texts that are no space of two bits.
func noForms() []string {
	return []string{"", "x", "xxx", "xy", "NONE", "none+xx", "xx+", "+xx", "xx--0x", " xx", "xx ", "xx-none", "\xff\xfe", "xx\x00", strings.Repeat("?", api.MaxSpaceText)}
}

// noPatterns: texts that are none, though not too long.
func noPatterns() []string {
	return []string{"(", ")", "*", "!", "a$", "! a", "\t", "1", many(25, "a"), many(49, "."), many(33, "(") + many(33, ")"), many(api.MaxPattern, "$"), "\xff"}
}

// tooLong and tooMany: a space's text of one byte too many, and one of one cube too many.
func tooLong() string { return strings.Repeat("x", api.MaxSpaceText+1) }
func tooMany() string { return strings.Repeat("xx+", api.MaxCubes) + "xx" }

const longPattern = api.MaxPattern + 1

// brokenNet: no network.
func brokenNet() api.Net {
	n := exampleNet()
	n.Bits = 3
	return n
}

// checkTo: what Avoid says.
func checkTo(t *testing.T, what string, a asking, want api.Errno) {
	t.Helper()
	check(t, fmt.Sprintf("P14.5: %s: %.1000s", what, a), text(a.avoid()), fmt.Sprint("error ", want))
}

// checkBoth: what both say.
func checkBoth(t *testing.T, what string, a asking, want api.Errno) {
	t.Helper()
	check(t, fmt.Sprintf("P14.4: %s: %.1000s", what, a), text(a.find()), fmt.Sprint("error ", want))
	checkTo(t, what, a, want)
}

// The errors one behind the other: each stands ahead of all that come later, and behind all that come earlier.
func TestTheOrderOfErrors(t *testing.T) {
	n, broken := exampleNet(), brokenNet()
	long := many(longPattern, " ")
	for _, net := range []api.Net{n, broken} {
		checkBoth(t, "where is long", asking{net, 9, 9, tooLong(), "(", -1, 0}, api.ErrLong)
		checkBoth(t, "where is long", asking{net, 0, 0, tooLong(), ".*", 2, 10}, api.ErrLong)
		checkBoth(t, "where is long", asking{net, 0, 0, many(1<<20, "xx+"), ".*", 2, 10}, api.ErrLong)
		checkBoth(t, "the pattern is long", asking{net, 9, 9, "???", long, -1, 0}, api.ErrLong)
		checkBoth(t, "the pattern is long", asking{net, 0, 0, "xx", long, 2, 10}, api.ErrLong)
		checkBoth(t, "the pattern is long", asking{net, 0, 0, "xx", many(1<<20, "("), 2, 10}, api.ErrLong)
		checkBoth(t, "both are long", asking{net, 0, 0, tooLong(), long, 2, 10}, api.ErrLong)
	}
	checkBoth(t, "no network", asking{broken, 9, 9, tooLong()[1:], long[2:] + "(", -1, 0}, api.ErrNet)
	checkBoth(t, "no network", asking{broken, 0, 0, "xx", ".*", 2, 10}, api.ErrNet)
	checkBoth(t, "no network", asking{broken, 0, 9, "???", "(", -1, 0}, api.ErrNet)
	for _, port := range farOff(5) {
		for _, where := range []string{"???", tooMany(), "xx"} {
			for _, pattern := range []string{"(", ".*"} {
				checkBoth(t, "no start", asking{n, port, 0, where, pattern, -1, 0}, api.ErrStart)
				checkBoth(t, "no start", asking{n, port, 0, where, pattern, 2, 10}, api.ErrStart)
				checkTo(t, "no end", asking{n, 0, port, where, pattern, -1, 0}, api.ErrStart)
				checkTo(t, "no end", asking{n, 0, port, where, pattern, 2, 10}, api.ErrStart)
				checkBoth(t, "neither", asking{n, port, port, where, pattern, 2, 10}, api.ErrStart)
			}
		}
	}
	for _, where := range noForms() {
		checkBoth(t, "no space", asking{n, 0, 0, where, "(", -1, 0}, api.ErrForm)
		checkBoth(t, "no space", asking{n, 4, 4, where, ".*", 2, 10}, api.ErrForm)
	}
	checkBoth(t, "a space that is too great", asking{n, 0, 0, tooMany(), "(", -1, 0}, api.ErrBudget)
	checkBoth(t, "a space that is too great", asking{n, 0, 0, tooMany(), ".*", 2, 10}, api.ErrBudget)
	for _, pattern := range noPatterns() {
		checkBoth(t, "no pattern", asking{n, 0, 0, "xx", pattern, -1, 0}, api.ErrPattern)
		checkBoth(t, "no pattern", asking{n, 0, 0, "none", pattern, 2, 10}, api.ErrPattern)
	}
	for _, hops := range noHops() {
		checkBoth(t, "no hops", asking{n, 0, 0, "xx", ".*", hops, 0}, api.ErrArg)
		checkBoth(t, "no hops", asking{n, 0, 0, "none", "", hops, 10}, api.ErrArg)
	}
	for _, budget := range noBudgets() {
		checkBoth(t, "no budget", asking{n, 0, 0, "xx", ".*", 2, budget}, api.ErrArg)
		checkBoth(t, "no budget", asking{n, 4, 4, "none", "", 0, budget}, api.ErrArg)
	}
	checkBoth(t, "the budget", asking{n, 0, 0, "xx", "none", 2, 4}, api.ErrBudget)
}

// Find has no port to come to.
func TestFindHasNoEnd(t *testing.T) {
	for _, port := range farOff(5) {
		a := asking{exampleNet(), 0, port, "xx", ".", 2, 10}
		check(t, "P14.4", text(a.find()), "xx from 0: 00 [0] [] 00")
	}
}

// What the arguments say comes ahead of what the work says of the network.
func TestErrorsAheadOfTheWork(t *testing.T) {
	n := plain(9)
	n.Guards[3] = antichain(9, 129)
	checkBoth(t, "the guard", asking{n, 0, 0, x(9), ".*", 0, 10}, api.ErrBudget)
	checkBoth(t, "the guard", asking{n, 0, 0, "none", "", 0, 10}, api.ErrBudget)
	checkBoth(t, "long", asking{n, 0, 0, tooLong(), ".*", 0, 10}, api.ErrLong)
	checkBoth(t, "long", asking{n, 0, 0, x(9), many(longPattern, "."), 0, 10}, api.ErrLong)
	checkBoth(t, "no start", asking{n, 4, 0, x(9), ".*", 0, 10}, api.ErrStart)
	checkTo(t, "no end", asking{n, 0, 4, x(9), ".*", 0, 10}, api.ErrStart)
	checkBoth(t, "no space", asking{n, 0, 0, x(8), ".*", 0, 10}, api.ErrForm)
	checkBoth(t, "no pattern", asking{n, 0, 0, x(9), "(", 0, 10}, api.ErrPattern)
	checkBoth(t, "no hops", asking{n, 0, 0, x(9), ".*", 65, 10}, api.ErrArg)
	checkBoth(t, "no budget", asking{n, 0, 0, x(9), ".*", 0, 0}, api.ErrArg)
}

func TestNumbersAtTheEdge(t *testing.T) {
	n := exampleNet()
	pattern := many(api.MaxPattern-len(".* R2.b"), " ") + ".* R2.b"
	for _, hops := range []int{2, 3, api.MaxHops - 1, api.MaxHops} {
		for _, budget := range []int{7, 8, api.MaxBudget - 1, api.MaxBudget} {
			check(t, "P14.4", find(n, 0, "xx", pattern, hops, budget), "0x from 0: 00 [0 1 2 3] [0 1] 10")
			check(t, "P14.5", avoid(n, 0, 3, "xx", many(api.MaxPattern, " "), hops, budget), "0x from 0: 00 [0 1 2 3] [0 1] 10")
			check(t, "P14.5", avoid(n, 0, 3, "xx", pattern, hops, budget), "none from 0")
		}
	}
	check(t, "P14.4", find(n, 0, "xx", ".", 0, 1), "xx from 0: 00 [0] [] 00")
	check(t, "P14.4", find(n, 4, "xx", ".", 0, 1), "xx from 4: 00 [4] [] 00")
	check(t, "P14.5", avoid(n, 4, 4, "xx", "", 0, 1), "xx from 4: 00 [4] [] 00")
	// A text of all the bytes that may be.
	most := x(256) + many(127, "-"+many(256, "1"))
	if len(most) > api.MaxSpaceText {
		t.Fatal("too long")
	}
	want := x(256) + "-" + many(256, "1") + " from 3: " + many(256, "0") + " [3] [] " + many(256, "0")
	check(t, "P14.4", find(plain(256), 3, most, "R", 0, 2), want)
	check(t, "P14.5", avoid(plain(256), 3, 3, most, "S", 0, 2), want)
}

func TestNetworksThatAreNone(t *testing.T) {
	for what, do := range map[string]func(n *api.Net){
		"no bits":              func(n *api.Net) { n.Bits = 0 },
		"other bits":           func(n *api.Net) { n.Bits = 9 },
		"no tables":            func(n *api.Net) { n.Tables = nil },
		"no guards":            func(n *api.Net) { n.Guards = nil },
		"a link to an out":     func(n *api.Net) { n.Ports[1].To = 3 },
		"a link far off":       func(n *api.Net) { n.Ports[1].To = 1 << 40 },
		"a link of an in-port": func(n *api.Net) { n.Ports[0].To = 2 },
		"a box that is none":   func(n *api.Net) { n.Ports[0].Box = 7 },
		"no word":              func(n *api.Net) { n.Tables[0][0].Write = "" },
		"no cube":              func(n *api.Net) { n.Tables[1][1].Cubes = []string{"xx", "x"} },
		"no cube of a guard":   func(n *api.Net) { n.Guards[3] = []api.Guard{{Cubes: []string{"0?"}}} },
		"an out far off":       func(n *api.Net) { n.Tables[0][0].Outs[0] = -1 },
		"a name twice":         func(n *api.Net) { n.Ports[3].Name = "R1.a" },
		"a name that is none":  func(n *api.Net) { n.Ports[3].Name = "R1" },
		"all of it":            func(n *api.Net) { *n = api.Net{} },
	} {
		n := exampleNet()
		do(&n)
		if lower.Valid(n) == api.OK {
			t.Fatalf("%s is a network", what)
		}
		checkBoth(t, what, asking{n, 0, 0, "xx", ".*", 2, 10}, api.ErrNet)
		checkBoth(t, what, asking{n, -1, 99, "", "(", -1, 0}, api.ErrNet)
	}
	checkBoth(t, "no port to begin at", asking{api.Net{Bits: 2}, 0, 0, "xx", ".*", 2, 10}, api.ErrStart)
}
