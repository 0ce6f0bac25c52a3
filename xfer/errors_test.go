package xfer_test

import (
	"testing"

	"reach/api"
	"reach/lower"
	"reach/space"
	"reach/xfer"
)

// farOff: numbers that are no port's of a network with so many ports.
func farOff(ports int) []int {
	return []int{-1, -2, ports, ports + 1, 48, 99, 1 << 32, 1<<63 - 1, -1 << 63}
}

// checkNoPort: the port is neither an in-port (if so asked) nor an out-port, whatever the space beside it is.
func checkNoPort(t *testing.T, what string, f *xfer.Transfer, port int, in, out bool) {
	t.Helper()
	spaces := []space.Space{{}, space.None(2), space.None(3), read(t, 2, "xx"), read(t, 3, "1xx")}
	if in {
		checkCalls(t, [][3]string{{what + ": P11.2: Hits", hits(f, port), errPort}, {what + ": P11.3: Parts", parts(f, port), errPort}, {what + ": P11.4: Gone", gone(f, port), errPort}})
	}
	for _, s := range spaces {
		if in {
			checkCalls(t, [][3]string{{what + ": P11.5: Forward", forward(f, port, s), errPort}})
		}
		if out {
			checkCalls(t, [][3]string{{what + ": P11.6: Inverse", inverse(f, port, s), errPort}})
		}
	}
}

func TestPortsThatAreNone(t *testing.T) {
	f := made(t, exampleNet())
	for _, port := range farOff(4) {
		checkNoPort(t, "far off", f, port, true, true)
	}
	for port := range 4 {
		checkNoPort(t, "the other side", f, port, port >= 2, port < 2)
	}
}

// P11.1: a nil or zero Transfer is one of a network without ports, and so is that of such a network.
func TestNoPortsAtAll(t *testing.T) {
	for _, f := range []*xfer.Transfer{nil, {}, new(xfer.Transfer), made(t, api.Net{Bits: 2}), made(t, api.Net{Bits: 256, Tables: make([][]api.Entry, 16)})} {
		for _, port := range append(farOff(0), 1, 2, 3) {
			checkNoPort(t, "without ports", f, port, true, true)
		}
	}
}

func TestWidths(t *testing.T) {
	f := made(t, exampleNet())
	// Also where no part is to be met.
	empty := made(t, plain(2))
	for _, s := range []space.Space{{}, space.None(0), space.None(1), space.None(3), space.None(256), read(t, 1, "x"), read(t, 3, "1xx-1x1"), read(t, 65, x(65))} {
		for port := range 2 {
			checkCalls(t, [][3]string{{"P11.5: another width", forward(f, port, s), errWidth}, {"P11.6: another width", inverse(f, port+2, s), errWidth}})
			checkCalls(t, [][3]string{{"P11.5: another width, no entry", forward(empty, port, s), errWidth}, {"P11.6: another width, no entry", inverse(empty, port+2, s), errWidth}})
		}
	}
	for port := range 2 {
		checkCalls(t, [][3]string{{"P11.5: no header", forward(f, port, space.None(2)), ""}, {"P11.6: no header", inverse(f, port+2, space.None(2)), ""}})
	}
}

// P11.1: what lower.Valid refuses, New does with the same error, ahead of every budget.
func TestNetworksThatAreNone(t *testing.T) {
	for what, do := range map[string]func(n *api.Net){
		"no bits":              func(n *api.Net) { n.Bits = 0 },
		"other bits":           func(n *api.Net) { n.Bits = 9 },
		"no tables":            func(n *api.Net) { n.Tables = nil },
		"no guards":            func(n *api.Net) { n.Guards = nil },
		"a link to an out":     func(n *api.Net) { n.Ports[2].To = 3 },
		"a link far off":       func(n *api.Net) { n.Ports[2].To = 1 << 40 },
		"a link of an in-port": func(n *api.Net) { n.Ports[0].To = 1 },
		"a box that is none":   func(n *api.Net) { n.Ports[0].Box = 7 },
		"no word":              func(n *api.Net) { n.Tables[0][0].Write = "" },
		"no cube":              func(n *api.Net) { n.Tables[0][1].Cubes = []string{"xx", "x"} },
		"no cube of a guard":   func(n *api.Net) { n.Guards[3][0].Cubes[0] = "0?" },
		"an in-port far off":   func(n *api.Net) { n.Tables[0][0].Ins = []int{99} },
		"an out far off":       func(n *api.Net) { n.Tables[0][0].Outs[0] = -1 },
		"an out twice":         func(n *api.Net) { n.Tables[0][0].Outs = []int{2, 2} },
		"a name twice":         func(n *api.Net) { n.Ports[3].Name = "R.a" },
		"all of it":            func(n *api.Net) { *n = api.Net{} },
		"a budget too":         func(n *api.Net) { n.Guards[0], n.Ports[0].Box = antichain(2, 9), 7 },
	} {
		n := exampleNet()
		do(&n)
		if lower.Valid(n) == api.OK {
			t.Fatalf("%s is a network", what)
		}
		if f, errno := xfer.New(n); f != nil || errno != api.ErrNet {
			t.Errorf("P11.1: %s: New: %v, %d", what, f, errno)
		}
	}
}
