package step_test

import (
	"reflect"
	"strings"
	"testing"

	"reach/api"
	"reach/step"
)

// checkErrors: P10.1 for all calls at once; a call that has not such an argument goes on to the next error.
func checkErrors(t *testing.T, what string, n api.Net, s api.State, to, hops int, ports []int, want [5]api.Errno) {
	t.Helper()
	entry, states, next := step.Next(n, s)
	reach, reached, near := step.Reach(n, s, to, hops)
	loop, looped, first := step.Loop(n, s, hops)
	header, place, off := step.Follow(n, s, ports)
	count := 0
	for range step.Paths(n, s, hops) {
		count++
	}
	if got := [5]api.Errno{next, 0, near, first, off}; got != [5]api.Errno{want[0], 0, want[2], want[3], want[4]} {
		t.Errorf("P10.1: %s: Next, Reach, Loop, Follow: %v; want %v", what, got, want)
	}
	if (count == 0) != (want[1] != api.OK) {
		t.Errorf("P10.1: %s: %d paths; want the error %d", what, count, want[1])
	}
	if want[0] != api.OK && (entry != 0 || states != nil) || want[2] != api.OK && (reached || !reflect.DeepEqual(reach, api.Path{})) {
		t.Errorf("W3: %s: %d, %v, %v, %v", what, entry, states, reach, reached)
	}
	if want[3] != api.OK && (looped || !reflect.DeepEqual(loop, api.Path{})) || want[4] != api.OK && (header != "" || place != 0) {
		t.Errorf("W3: %s: %v, %v, %q, %d", what, loop, looped, header, place)
	}
}

// all: one error of all calls.
func all(errno api.Errno) [5]api.Errno { return [5]api.Errno{errno, errno, errno, errno, errno} }

func TestErrorsInTheirOrder(t *testing.T) {
	good, bad := exampleNet(), exampleNet()
	bad.Guards = bad.Guards[1:]
	there, long := at(0, "101"), make([]int, 131)
	checkErrors(t, "nothing wrong", good, there, 4, 64, []int{0}, all(api.OK))
	checkErrors(t, "all wrong", bad, at(9, ""), 9, 99, long, [5]api.Errno{api.ErrNet, api.ErrNet, api.ErrNet, api.ErrNet, api.ErrLong})
	checkErrors(t, "the network", bad, at(9, ""), 9, 99, long[:130], all(api.ErrNet))
	checkErrors(t, "the network alone", bad, there, 4, 64, []int{0}, all(api.ErrNet))
	checkErrors(t, "no network at all", api.Net{}, api.State{}, 0, 0, nil, all(api.ErrNet))
	checkErrors(t, "a network without a port", api.Net{Bits: 3}, there, 0, 0, nil, all(api.ErrState))
	checkErrors(t, "the list", good, at(9, ""), 9, 99, long, [5]api.Errno{api.ErrState, api.ErrState, api.ErrState, api.ErrState, api.ErrLong})
	checkErrors(t, "the state", good, at(5, "101"), 9, 99, long[:130], all(api.ErrState))
	checkErrors(t, "the end", good, there, 5, 65, []int{0}, [5]api.Errno{api.OK, api.ErrArg, api.ErrStart, api.ErrArg, api.OK})
	checkErrors(t, "the end alone", good, there, -1, 64, []int{0}, [5]api.Errno{api.OK, api.OK, api.ErrStart, api.OK, api.OK})
	checkErrors(t, "the hops", good, there, 0, 65, []int{0}, [5]api.Errno{api.OK, api.ErrArg, api.ErrArg, api.ErrArg, api.OK})
	checkErrors(t, "hops below 0", good, there, 4, -1, []int{0}, [5]api.Errno{api.OK, api.ErrArg, api.ErrArg, api.ErrArg, api.OK})
	checkErrors(t, "no hops", good, there, 4, 0, []int{0}, all(api.OK))
}

func TestStatesThatAreNone(t *testing.T) {
	e := exampleNet()
	for _, s := range []api.State{
		at(-1, "101"), at(5, "101"), at(1<<62, "101"), at(-1<<63, "101"), at(0, ""), at(0, "10"), at(0, "1011"), at(0, "1x1"), at(0, "xxx"), at(0, "1 1"),
		at(0, "10\x00"), at(0, "10\xff"), at(0, "１"), at(0, "10\n"), at(4, "012"), at(2, strings.Repeat("1", 256)), at(2, strings.Repeat("1", 257)), at(2, strings.Repeat("0", 1<<20)),
	} {
		checkErrors(t, "a state that is none", e, s, 0, 1, []int{s.Port}, all(api.ErrState))
	}
	for b := range 256 {
		want := api.ErrState
		if b == '0' || b == '1' {
			want = api.OK
		}
		checkErrors(t, "a byte of a header", e, at(2, "1"+string([]byte{byte(b)})+"0"), 0, 1, []int{2}, all(want))
	}
}

// Numbers far off, in every place of a call.
func TestNumbersFarOff(t *testing.T) {
	e, there := exampleNet(), at(0, "101")
	for _, far := range []int{-1 << 63, 1<<63 - 1, 1 << 32, -2, 65, 1000} {
		checkReach(t, e, there, far, 8, api.Path{}, false, api.ErrStart)
		checkReach(t, e, there, 2, far, api.Path{}, false, api.ErrArg)
		checkLoop(t, e, there, far, api.Path{}, false, api.ErrArg)
		checkPaths(t, e, there, far)
		checkFollow(t, e, there, []int{far}, "", 0, api.ErrOff)
		checkFollow(t, e, there, []int{0, 1, far}, "", 2, api.ErrOff)
	}
}

// Numbers that are no network are refused by every call, whatever is wrong with them.
func TestNetworksThatAreNone(t *testing.T) {
	for what, do := range map[string]func(n *api.Net){
		"no bits":              func(n *api.Net) { n.Bits = 0 },
		"other bits":           func(n *api.Net) { n.Bits = 4 },
		"no tables":            func(n *api.Net) { n.Tables = nil },
		"no guards":            func(n *api.Net) { n.Guards = nil },
		"a link to an out":     func(n *api.Net) { n.Ports[1].To = 4 },
		"a link far off":       func(n *api.Net) { n.Ports[1].To = 1 << 40 },
		"a link of an in-port": func(n *api.Net) { n.Ports[0].To = 3 },
		"a box that is none":   func(n *api.Net) { n.Ports[0].Box = 7 },
		"no word":              func(n *api.Net) { n.Tables[0][0].Write = "" },
		"no cube":              func(n *api.Net) { n.Tables[0][1].Cubes[0] = "xx" },
		"no cube of a guard":   func(n *api.Net) { n.Guards[2][0].Cubes[0] = "11?" },
		"an out far off":       func(n *api.Net) { n.Tables[0][0].Outs[1] = 99 },
		"ins that fall":        func(n *api.Net) { n.Tables[0][0].Ins = []int{0, 0} },
		"a name twice":         func(n *api.Net) { n.Ports[4].Name = "A.a" },
	} {
		n := exampleNet()
		do(&n)
		checkErrors(t, what, n, at(0, "101"), 2, 8, []int{0, 1, 3}, all(api.ErrNet))
	}
}
