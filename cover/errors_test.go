package cover_test

// P15.1 to P15.3: the errors and their order.

import (
	"fmt"
	"math"
	"testing"

	"reach/api"
	"reach/lower"
)

// farOff: numbers that are none of so many.
func farOff(count int) []int {
	return []int{-1, -2, count, count + 1, 48, 256, 1 << 32, math.MaxInt, math.MinInt}
}

// noHops and noBudgets: W9.
func noHops() []int    { return []int{-1, -2, api.MaxHops + 1, 1 << 32, math.MaxInt, math.MinInt} }
func noBudgets() []int { return []int{0, -1, api.MaxBudget + 1, 1 << 32, math.MaxInt, math.MinInt} }

// noDoors: numbers that are no in-port's of the example's network.
func noDoors() []int { return append(farOff(5), 1, 3, 4) }

// brokenNet: no network.
func brokenNet() api.Net {
	n := exampleNet()
	n.Bits = 3
	return n
}

func checkMeets(t *testing.T, what string, n api.Net, door, entry, hops, budget int, want api.Errno) {
	t.Helper()
	what = fmt.Sprintf("P15.2: %s: %d, %d, %d, %d", what, door, entry, hops, budget)
	check(t, what, meets(n, door, entry, hops, budget), fmt.Sprint("error ", want))
}

func checkCover(t *testing.T, what string, n api.Net, doors []int, hops, budget int, want api.Errno) {
	t.Helper()
	what = fmt.Sprintf("P15.3: %s: %.100s, %d, %d", what, fmt.Sprint(doors), hops, budget)
	check(t, what, covered(n, doors, hops, budget), fmt.Sprint("error ", want))
}

// The errors one behind the other: each stands ahead of all that come later, and behind all that come earlier.
func TestTheOrderOfErrorsOfMeets(t *testing.T) {
	n, broken := exampleNet(), brokenNet()
	checkMeets(t, "no network", broken, 9, 9, -1, 0, api.ErrNet)
	checkMeets(t, "no network", broken, 0, 0, 2, 10, api.ErrNet)
	checkMeets(t, "no network", broken, 1, 0, 2, 10, api.ErrNet)
	for _, door := range noDoors() {
		checkMeets(t, "no door", n, door, 9, -1, 0, api.ErrDoors)
		checkMeets(t, "no door", n, door, 0, -1, 10, api.ErrDoors)
		checkMeets(t, "no door", n, door, 0, 2, 0, api.ErrDoors)
		checkMeets(t, "no door", n, door, -1, 2, 10, api.ErrDoors)
		checkMeets(t, "no door", n, door, 0, 2, 10, api.ErrDoors)
	}
	for _, entry := range farOff(3) {
		checkMeets(t, "no entry", n, 0, entry, -1, 0, api.ErrArg)
		checkMeets(t, "no entry", n, 2, entry, 2, 10, api.ErrArg)
		checkMeets(t, "no entry", n, 2, entry, 2, 1, api.ErrArg)
		checkMeets(t, "no entry", n, 2, entry, 0, 1, api.ErrArg)
	}
	for _, hops := range noHops() {
		checkMeets(t, "no hops", n, 0, 2, hops, 0, api.ErrArg)
		checkMeets(t, "no hops", n, 2, 0, hops, 1, api.ErrArg)
	}
	for _, budget := range noBudgets() {
		checkMeets(t, "no budget", n, 0, 2, 2, budget, api.ErrArg)
		checkMeets(t, "no budget", n, 2, 0, 0, budget, api.ErrArg)
	}
	checkMeets(t, "the budget", n, 0, 2, 2, 4, api.ErrBudget)
}

func TestTheOrderOfErrorsOfCover(t *testing.T) {
	n, broken := exampleNet(), brokenNet()
	for _, doors := range [][]int{nil, {}, {0}, {9}, {0, 0}, {1}} {
		checkCover(t, "no network", broken, doors, -1, 0, api.ErrNet)
		checkCover(t, "no network", broken, doors, 2, 10, api.ErrNet)
	}
	for _, door := range noDoors() {
		for _, doors := range [][]int{{door}, {0, door}, {door, 0}, {2, 0, door}, {door, door}, {2, door, 0, door, 2}} {
			checkCover(t, "no door", n, doors, -1, 0, api.ErrDoors)
			checkCover(t, "no door", n, doors, 2, 10, api.ErrDoors)
			checkCover(t, "no door", n, doors, 2, 1, api.ErrDoors)
		}
	}
	for _, doors := range [][]int{{0, 0}, {2, 2}, {0, 2, 0}, {2, 0, 0}, {0, 2, 2}, make([]int, 49), make([]int, 1<<20)} {
		checkCover(t, "a door twice", n, doors, -1, 0, api.ErrDoors)
		checkCover(t, "a door twice", n, doors, 2, 10, api.ErrDoors)
		checkCover(t, "a door twice", n, doors, 2, 1, api.ErrDoors)
	}
	for _, doors := range [][]int{nil, {}, {0}, {2, 0}} {
		for _, hops := range noHops() {
			checkCover(t, "no hops", n, doors, hops, 0, api.ErrArg)
			checkCover(t, "no hops", n, doors, hops, 10, api.ErrArg)
		}
		for _, budget := range noBudgets() {
			checkCover(t, "no budget", n, doors, 2, budget, api.ErrArg)
			checkCover(t, "no budget", n, doors, 0, budget, api.ErrArg)
		}
	}
	checkCover(t, "the budget", n, []int{2, 0}, 2, 4, api.ErrBudget)
}

// What the arguments say comes ahead of what the work says of the network.
func TestErrorsAheadOfTheWork(t *testing.T) {
	n := plain(9, send([]string{x(9)}, 2))
	n.Guards[3] = antichain(9, 129)
	checkMeets(t, "the guard", n, 0, 0, 1, 10, api.ErrBudget)
	checkMeets(t, "no door", n, 2, 0, 1, 10, api.ErrDoors)
	checkMeets(t, "no entry", n, 0, 1, 1, 10, api.ErrArg)
	checkMeets(t, "no hops", n, 0, 0, 65, 10, api.ErrArg)
	checkMeets(t, "no budget", n, 0, 0, 1, 0, api.ErrArg)
	for _, doors := range [][]int{nil, {0}, {1, 0}} {
		checkCover(t, "the guard", n, doors, 1, 10, api.ErrBudget)
		checkCover(t, "no door", n, append([]int{2}, doors...), 1, 10, api.ErrDoors)
		checkCover(t, "no hops", n, doors, 65, 10, api.ErrArg)
		checkCover(t, "no budget", n, doors, 1, 0, api.ErrArg)
	}
	check(t, "P15.1", doorsOf(n), "[0]")
}

func TestNumbersAtTheEdge(t *testing.T) {
	n := exampleNet()
	for _, hops := range []int{4, 5, api.MaxHops - 1, api.MaxHops} {
		for _, budget := range []int{7, 8, api.MaxBudget - 1, api.MaxBudget} {
			check(t, "P15.2", meets(n, 0, 0, hops, budget), "xx")
			check(t, "P15.2", meets(n, 0, 2, hops, budget), "0x+1x")
			check(t, "P15.3", covered(n, []int{0, 2}, hops, budget), "0:00[0 1 2] live 3")
		}
	}
	check(t, "P15.2", meets(n, 2, 2, 0, 1), "none")
	check(t, "P15.3", covered(n, []int{2, 0}, 0, 1), "live 0 0:3 1:3 2:3")
}

// As many in-ports as ports may be, all of them doors, in any order.
func TestAllPortsAreDoors(t *testing.T) {
	n := api.Net{Bits: 1, Tables: [][]api.Entry{nil}, Guards: make([][]api.Guard, api.MaxPorts)}
	var doors, hidden []int
	for port := range api.MaxPorts {
		n.Ports = append(n.Ports, api.Port{Name: fmt.Sprint("R.p", port), In: true, To: -1})
		n.Tables[0] = append(n.Tables[0], api.Entry{Ins: []int{port}, Cubes: []string{"x"}, Write: "x"}, api.Entry{Ins: []int{port}, Cubes: []string{"1"}, Write: "x"})
		doors, hidden = append([]int{port}, doors...), append(hidden, 2*port+1)
	}
	c, errno := asking{n, doors, 64, 1}.cover()
	if errno != api.OK || c.Live != api.MaxPorts || len(c.Packets) != api.MaxPorts {
		t.Fatalf("P15.3: %s", text(c, errno))
	}
	for at, p := range c.Packets {
		check(t, "P15.3", fmt.Sprint(p), fmt.Sprint(api.Packet{Port: doors[at], Header: "0", Hits: []int{2 * doors[at]}}))
		check(t, "P15.3", fmt.Sprint(c.Dead[at]), fmt.Sprint(api.Dead{Entry: hidden[at], Why: api.DeadHidden}))
	}
	checkCover(t, "a door twice, the last", n, append(doors, 0), 64, 1, api.ErrDoors)
}

func TestNetworksThatAreNone(t *testing.T) {
	for what, do := range map[string]func(n *api.Net){
		"no bits":              func(n *api.Net) { n.Bits = 0 },
		"other bits":           func(n *api.Net) { n.Bits = 9 },
		"no tables":            func(n *api.Net) { n.Tables = nil },
		"no guards":            func(n *api.Net) { n.Guards = nil },
		"a link to an out":     func(n *api.Net) { n.Ports[1].To = 3 },
		"a link far off":       func(n *api.Net) { n.Ports[1].To = 1 << 40 },
		"a link of an in-port": func(n *api.Net) { n.Ports[0].To = 2 },
		"a box that is none":   func(n *api.Net) { n.Ports[0].Box = 7 },
		"no word":              func(n *api.Net) { n.Tables[0][0].Write = "" },
		"no cube":              func(n *api.Net) { n.Tables[1][1].Cubes = []string{"xx", "x"} },
		"no cube of a guard":   func(n *api.Net) { n.Guards[3] = []api.Guard{{Cubes: []string{"0?"}}} },
		"an in far off":        func(n *api.Net) { n.Tables[0][0].Ins[0] = 1 << 40 },
		"an out far off":       func(n *api.Net) { n.Tables[0][0].Outs[0] = -1 },
		"a name twice":         func(n *api.Net) { n.Ports[3].Name = "R1.a" },
		"all of it":            func(n *api.Net) { *n = api.Net{} },
	} {
		n := exampleNet()
		do(&n)
		if lower.Valid(n) == api.OK {
			t.Fatalf("%s is a network", what)
		}
		check(t, "P15.1: "+what, doorsOf(n), "error 90")
		checkMeets(t, what, n, 0, 0, 2, 10, api.ErrNet)
		checkMeets(t, what, n, -1, -1, -1, 0, api.ErrNet)
		checkCover(t, what, n, []int{0}, 2, 10, api.ErrNet)
		checkCover(t, what, n, []int{0, 0, -1}, -1, 0, api.ErrNet)
		checkCover(t, what, n, nil, 2, 10, api.ErrNet)
	}
}

// Networks with next to nothing in them.
func TestNetworksThatAreBare(t *testing.T) {
	n := api.Net{Bits: 2}
	check(t, "P15.1: no port", doorsOf(n), "[]")
	check(t, "P15.3: no port", covered(n, nil, 2, 10), "live 0")
	checkMeets(t, "no port", n, 0, 0, 2, 10, api.ErrDoors)
	checkCover(t, "no port", n, []int{0}, 2, 10, api.ErrDoors)
	n = plain(2)
	check(t, "P15.1: no entry", doorsOf(n), "[0]")
	check(t, "P15.3: no entry", covered(n, []int{0, 1}, 2, 10), "live 0")
	checkMeets(t, "no entry", n, 0, 0, 2, 10, api.ErrArg)
}

// The doors rise, whatever the boxes; a link from the port's own box counts, too.
func TestDoors(t *testing.T) {
	n := exampleNet()
	n.Ports[3].To = 2
	check(t, "P15.1", doorsOf(n), "[0]")
	n.Ports[1].To = -1
	check(t, "P15.1", doorsOf(n), "[0]")
	n.Ports[3].To = -1
	check(t, "P15.1", doorsOf(n), "[0 2]")
	n.Ports[1].To, n.Ports[4].To = 0, 0
	check(t, "P15.1", doorsOf(n), "[2]")
	n.Guards[2] = stopped()
	check(t, "P15.1", doorsOf(n), "[2]")
	n.Ports[0].Box, n.Ports[2].Box = 1, 0
	n.Tables = make([][]api.Entry, 2)
	n.Ports[1].To, n.Ports[4].To = -1, -1
	check(t, "P15.1", doorsOf(n), "[0 2]")
}
