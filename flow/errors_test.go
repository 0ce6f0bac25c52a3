package flow_test

import (
	"math"
	"strings"
	"testing"

	"reach/api"
	"reach/flow"
	"reach/lower"
)

// farOff: numbers that are no port's of a network with so many ports.
func farOff(ports int) []int {
	return []int{-1, -2, ports, ports + 1, 48, 99, 1 << 32, math.MaxInt, math.MinInt}
}

// noHops and noBudgets: W9.
func noHops() []int    { return []int{-1, -2, api.MaxHops + 1, 1 << 32, math.MaxInt, math.MinInt} }
func noBudgets() []int { return []int{0, -1, api.MaxBudget + 1, 1 << 32, math.MaxInt, math.MinInt} }

// noForms: texts that are no space of two bits.
func noForms() []string {
	return []string{"", "x", "xxx", "xy", "NONE", "none+xx", "xx+", "+xx", "xx--0x", " xx", "xx ", "xx-none", "\xff\xfe", "xx\x00", strings.Repeat("?", api.MaxSpaceText)}
}

// The errors one behind the other: each stands ahead of all that come later, and behind all that come earlier.
func TestTheOrderOfErrors(t *testing.T) {
	n, broken := exampleNet(), exampleNet()
	broken.Bits = 3
	long, many := strings.Repeat("x", api.MaxSpaceText+1), strings.Repeat("xx+", api.MaxCubes)+"xx"
	checkRefused(t, "long", broken, 9, long, -1, 0, api.ErrLong)
	checkRefused(t, "long", n, 0, long, 2, 10, api.ErrLong)
	checkRefused(t, "long", n, 0, strings.Repeat("xx+", 1<<20), 2, 10, api.ErrLong)
	checkRefused(t, "no network", broken, 9, long[1:], -1, 0, api.ErrNet)
	checkRefused(t, "no network", broken, 0, "xx", 2, 10, api.ErrNet)
	for _, start := range farOff(5) {
		checkRefused(t, "no start", n, start, "???", -1, 0, api.ErrStart)
		checkRefused(t, "no start", n, start, many, 2, 10, api.ErrStart)
		checkRefused(t, "no start", n, start, "xx", 2, 10, api.ErrStart)
	}
	for _, from := range noForms() {
		checkRefused(t, "no space", n, 0, from, -1, 0, api.ErrForm)
		checkRefused(t, "no space", n, 4, from, 2, 10, api.ErrForm)
	}
	checkRefused(t, "a space that is too great", n, 0, many, -1, 0, api.ErrBudget)
	checkRefused(t, "a space that is too great", n, 0, many, 2, 10, api.ErrBudget)
	for _, hops := range noHops() {
		checkRefused(t, "no hops", n, 0, "xx", hops, 0, api.ErrArg)
		checkRefused(t, "no hops", n, 0, "xx", hops, 10, api.ErrArg)
		checkRefused(t, "no hops", n, 0, "none", hops, 10, api.ErrArg)
	}
	for _, budget := range noBudgets() {
		checkRefused(t, "no budget", n, 0, "xx", 2, budget, api.ErrArg)
		checkRefused(t, "no budget", n, 0, "none", 0, budget, api.ErrArg)
	}
}

// What the arguments say comes ahead of what xfer says of the network.
func TestErrorsAheadOfTheWork(t *testing.T) {
	n := plain(9)
	n.Guards[3] = antichain(9, 129)
	checkRefused(t, "the guard", n, 0, x(9), 0, 10, api.ErrBudget)
	checkRefused(t, "long", n, 0, strings.Repeat("x", api.MaxSpaceText+1), 0, 10, api.ErrLong)
	checkRefused(t, "no start", n, 4, x(9), 0, 10, api.ErrStart)
	checkRefused(t, "no space", n, 0, x(8), 0, 10, api.ErrForm)
	checkRefused(t, "no hops", n, 0, x(9), 65, 10, api.ErrArg)
	checkRefused(t, "no budget", n, 0, x(9), 0, 0, api.ErrArg)
}

// The numbers at the edge are taken.
func TestNumbersAtTheEdge(t *testing.T) {
	for _, hops := range []int{0, 1, api.MaxHops - 1, api.MaxHops} {
		for _, budget := range []int{7, 8, api.MaxBudget - 1, api.MaxBudget} {
			walked(t, exampleNet(), 0, "xx", hops, budget, false)
		}
		walked(t, exampleNet(), 0, "none", hops, 1, false)
	}
}

func TestNetworksThatAreNone(t *testing.T) {
	for what, do := range map[string]func(n *api.Net){
		"no bits":              func(n *api.Net) { n.Bits = 0 },
		"other bits":           func(n *api.Net) { n.Bits = 9 },
		"no tables":            func(n *api.Net) { n.Tables = nil },
		"no guards":            func(n *api.Net) { n.Guards = nil },
		"a link to an out":     func(n *api.Net) { n.Ports[1].To = 3 },
		"a link far off":       func(n *api.Net) { n.Ports[1].To = 1 << 40 },
		"a link of an in-port": func(n *api.Net) { n.Ports[0].To = 2 },
		"a box that is none":   func(n *api.Net) { n.Ports[0].Box = 7 },
		"no word":              func(n *api.Net) { n.Tables[0][0].Write = "" },
		"no cube":              func(n *api.Net) { n.Tables[1][1].Cubes = []string{"xx", "x"} },
		"no cube of a guard":   func(n *api.Net) { n.Guards[3] = []api.Guard{{Cubes: []string{"0?"}}} },
		"an out far off":       func(n *api.Net) { n.Tables[0][0].Outs[0] = -1 },
		"a name twice":         func(n *api.Net) { n.Ports[3].Name = "R1.a" },
		"all of it":            func(n *api.Net) { *n = api.Net{} },
	} {
		n := exampleNet()
		do(&n)
		if lower.Valid(n) == api.OK {
			t.Fatalf("%s is a network", what)
		}
		checkRefused(t, what, n, 0, "xx", 2, 10, api.ErrNet)
		checkRefused(t, what, n, -1, "", -1, 0, api.ErrNet)
	}
	checkRefused(t, "no port to begin at", api.Net{Bits: 2}, 0, "xx", 2, 10, api.ErrStart)
}

// P12.4, P12.5: ports that there are not, texts that are no header.
func TestPortsAndHeadersThatAreNone(t *testing.T) {
	for _, w := range []*flow.Walk{walked(t, exampleNet(), 0, "xx", 4, 10, false), walked(t, exampleNet(), 0, "none", 4, 10, false)} {
		for _, port := range farOff(5) {
			if text, errno := w.At(port); text != "" || errno != api.ErrStart {
				t.Errorf("P12.4: At(%d) = %q, %d", port, text, errno)
			}
			checkNoFirst(t, w, port, "00")
		}
		for port := range 5 {
			for _, header := range []string{"", "0", "000", "0x", "xx", "none", "\x00\x01", "0?", "٠٠", strings.Repeat("0", 1<<16)} {
				checkNoFirst(t, w, port, header)
			}
		}
	}
	w := walked(t, exampleNet(), 0, "none", 4, 10, false)
	for port := range 5 {
		if text, errno := w.At(port); text != "none" || errno != api.OK {
			t.Errorf("P12.4: At(%d) where there is no flow = %q, %d", port, text, errno)
		}
		checkNoFirst(t, w, port, "00")
	}
}

func checkNoFirst(t *testing.T, w *flow.Walk, port int, header string) {
	t.Helper()
	if i, f := w.First(port, header); i != -1 || flowText(f) != flowText(api.Flow{}) {
		t.Errorf("P12.5: First(%d, %.60q) = %d, %s", port, header, i, flowText(f))
	}
}

// P12.6
func TestWalksOfNothing(t *testing.T) {
	for _, w := range []*flow.Walk{nil, {}, new(flow.Walk)} {
		for range 2 {
			for i, f := range w.All() {
				t.Errorf("P12.6: flow %d, %s", i, flowText(f))
			}
		}
		if w.Size() != 0 {
			t.Errorf("P12.6: Size = %d", w.Size())
		}
		for _, port := range append(farOff(0), 0, 1, 2) {
			if text, errno := w.At(port); text != "" || errno != api.ErrStart {
				t.Errorf("P12.6: At(%d) = %q, %d", port, text, errno)
			}
			for _, header := range []string{"", "0", "00", "x"} {
				checkNoFirst(t, w, port, header)
			}
		}
	}
}
