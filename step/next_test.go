package step_test

import (
	"fmt"
	"slices"
	"strings"
	"testing"

	"reach/api"
	"reach/step"
)

// Every header at every port of mixed networks.
func TestNextOfMixedNetworks(t *testing.T) {
	s := source(101)
	applied, stopped, several := 0, 0, 0
	for range 400 {
		n := s.small()
		for port := range n.Ports {
			for _, h := range everyHeader(n.Bits) {
				entry, states := tellNext(n, at(port, h))
				checkNext(t, n, at(port, h), entry, states, api.OK)
				if entry >= 0 && len(states) > 2 {
					several++
				} else if entry >= 0 {
					applied++
				} else {
					stopped++
				}
			}
		}
	}
	if applied < 1000 || stopped < 1000 || several < 1000 {
		t.Errorf("few of a kind: %d applied, %d stopped, %d to several ports", applied, stopped, several)
	}
}

// Wide headers: a cube's and a word's last places count.
func TestNextOfWideHeaders(t *testing.T) {
	s := source(102)
	for range 200 {
		n := s.net([]int{63, 64, 65, 128, 255, 256}[s.below(6)], 1+s.below(48))
		for range 10 {
			state := s.state(n)
			entry, states := tellNext(n, state)
			checkNext(t, n, state, entry, states, api.OK)
		}
	}
	for _, bits := range []int{64, 65, 256} {
		zeros := strings.Repeat("0", bits-1)
		n := api.Net{Bits: bits, Ports: []api.Port{{Name: "A.i", In: true, To: -1}, {Name: "A.o", To: 0}}, Guards: make([][]api.Guard, 2)}
		n.Tables = [][]api.Entry{{
			{Ins: []int{0}, Cubes: []string{strings.Repeat("x", bits-1) + "1"}, Write: strings.Repeat("x", bits-1) + "0", Outs: []int{1}},
			{Ins: []int{0}, Cubes: []string{"0" + strings.Repeat("x", bits-1)}, Write: "1" + strings.Repeat("x", bits-1), Outs: []int{1}},
		}}
		checkNext(t, n, at(0, zeros+"1"), 0, []api.State{at(1, zeros+"0"), at(0, zeros+"0")}, api.OK)
		checkNext(t, n, at(0, zeros+"0"), 1, []api.State{at(1, "1"+zeros), at(0, "1"+zeros)}, api.OK)
		checkNext(t, n, at(0, "1"+zeros), -1, nil, api.OK)
	}
}

// oneBox: an in-port with one entry for all headers to one out-port, that is not linked.
func oneBox() api.Net {
	return api.Net{
		Bits: 2, Ports: []api.Port{{Name: "A.i", In: true, To: -1}, {Name: "A.o", To: -1}}, Guards: make([][]api.Guard, 2),
		Tables: [][]api.Entry{{{Ins: []int{0}, Cubes: []string{"xx"}, Write: "x1", Outs: []int{1}}}},
	}
}

// P10.2, at an in-port and at an out-port, where the header is asked that was written.
func TestGuardsLineByLine(t *testing.T) {
	permit := func(cubes ...string) api.Guard { return api.Guard{Permit: true, Cubes: cubes} }
	deny := func(cubes ...string) api.Guard { return api.Guard{Cubes: cubes} }
	for _, x := range []struct {
		lines []api.Guard
		let   string // of 00, 01, 10, 11
	}{
		{nil, "yyyy"},
		{[]api.Guard{}, "yyyy"},
		{[]api.Guard{permit()}, "nnnn"},
		{[]api.Guard{deny()}, "nnnn"},
		{[]api.Guard{permit("xx")}, "yyyy"},
		{[]api.Guard{deny("xx")}, "nnnn"},
		{[]api.Guard{deny("01")}, "nnnn"},
		{[]api.Guard{permit("01")}, "nynn"},
		{[]api.Guard{permit("01", "1x")}, "nyyy"},
		{[]api.Guard{deny("01"), permit("xx")}, "ynyy"},
		{[]api.Guard{permit("0x"), deny("x1"), permit("xx")}, "yyyn"},
		{[]api.Guard{deny(), permit("11"), deny("1x"), permit("xx"), deny("00")}, "yyny"},
	} {
		for at0, h := range everyHeader(2) {
			n := oneBox()
			n.Guards[0] = x.lines
			entry, _, _ := step.Next(n, at(0, h))
			if (entry == 0) != (x.let[at0] == 'y') {
				t.Errorf("P10.2: %v at the in-port, %s: entry %d", x.lines, h, entry)
			}
			n.Guards[0], n.Guards[1] = nil, x.lines
			entry, states, _ := step.Next(n, at(0, h))
			if written := at0 | 1; entry != 0 || (len(states) == 1) != (x.let[written] == 'y') {
				t.Errorf("P10.2: %v at the out-port, %s: %d, %v", x.lines, h, entry, states)
			}
		}
	}
}

// An out-port's guard is not asked of a packet that is put in there, nor an in-port's of one that comes there.
func TestGuardsThatAreNotAsked(t *testing.T) {
	n := exampleNet()
	none := []api.Guard{{Cubes: []string{"xxx"}}}
	n.Guards = [][]api.Guard{none, none, none, none, none}
	checkNext(t, n, at(1, "101"), -1, []api.State{at(3, "101")}, api.OK)
	n.Guards = [][]api.Guard{nil, nil, none, none, nil}
	checkNext(t, n, at(0, "100"), 0, []api.State{at(1, "110"), at(3, "110")}, api.OK)
	checkNext(t, n, at(3, "111"), -1, nil, api.OK)
	checkReach(t, n, at(0, "101"), 3, 1, path("111", []int{0, 1, 3}, 0), true, api.OK)
	checkFollow(t, n, at(0, "101"), []int{0, 1, 3}, "111", 1, api.OK)
}

// The first entry that fits is applied, whether or not it leaves a state; one without ins, cubes or this port does not fit.
func TestTheEntryThatFits(t *testing.T) {
	n := api.Net{Bits: 1, Ports: []api.Port{{Name: "B.o", Box: 1, To: -1}, {Name: "B.i", Box: 1, In: true, To: -1}, {Name: "B.j", Box: 1, In: true, To: -1}}, Guards: make([][]api.Guard, 3)}
	entry := func(cube string, ins, outs []int) api.Entry {
		return api.Entry{Ins: ins, Cubes: strings.Fields(cube), Write: "x", Outs: outs}
	}
	n.Tables = [][]api.Entry{
		{entry("x", nil, nil), entry("0 1", nil, nil)},
		{entry("", []int{1, 2}, []int{0}), entry("x", nil, []int{0}), entry("x", []int{2}, nil), entry("0", []int{1}, nil), entry("0 1", []int{1, 2}, []int{0}), entry("x", []int{1}, nil)},
		nil,
	}
	checkIsNet(t, n)
	checkNext(t, n, at(1, "0"), 5, nil, api.OK)
	checkNext(t, n, at(1, "1"), 6, []api.State{at(0, "1")}, api.OK)
	checkNext(t, n, at(2, "0"), 4, nil, api.OK)
	checkNext(t, n, at(2, "1"), 4, nil, api.OK)
	n.Guards[0] = []api.Guard{{Permit: true, Cubes: []string{"0"}}}
	checkNext(t, n, at(1, "1"), 6, nil, api.OK)
}

// The states stand in the order of Outs, each out-port's link at once behind it; two links may lead to one in-port.
func TestTheOrderOfStates(t *testing.T) {
	n := api.Net{Bits: 1, Guards: make([][]api.Guard, 6), Tables: [][]api.Entry{{{Ins: []int{0}, Cubes: []string{"x"}, Write: "1", Outs: []int{5, 2, 4, 3}}}}}
	for p := range 6 {
		n.Ports = append(n.Ports, api.Port{Name: fmt.Sprint("A.p", p), In: p < 2, To: []int{-1, -1, 1, 1, -1, 0}[p]})
	}
	want := []api.State{at(5, "1"), at(0, "1"), at(2, "1"), at(1, "1"), at(4, "1"), at(3, "1"), at(1, "1")}
	checkNext(t, n, at(0, "0"), 0, want, api.OK)
	n.Guards[2] = []api.Guard{{Permit: true, Cubes: []string{"0"}}}
	checkNext(t, n, at(0, "0"), 0, slices.Delete(slices.Clone(want), 2, 4), api.OK)
}
