package step_test

import (
	"fmt"
	"slices"
	"testing"

	"reach/api"
	"reach/step"
)

// eachCase calls check with a packet of a mixed network, hops, and all its paths.
func eachCase(t *testing.T, seed source, count int, check func(n api.Net, s api.State, hops int, list []told)) {
	t.Helper()
	done := 0
	for range count {
		n := seed.small()
		for range 6 {
			s, hops := seed.state(n), []int{0, 1, 2, 3, 4, 5, 9, 64}[seed.below(8)]
			if list, all := tellPaths(n, s, hops); all {
				check(n, s, hops, list)
				done++
			}
		}
	}
	if done < count*3 {
		t.Errorf("few packets: %d", done)
	}
}

func TestPathsOfMixedNetworks(t *testing.T) {
	long, many := 0, 0
	eachCase(t, 103, 1500, func(n api.Net, s api.State, hops int, list []told) {
		want := tellWhole(list)
		checkPaths(t, n, s, hops, want...)
		if len(want) > 4 {
			many++
		}
		if slices.ContainsFunc(want, func(p api.Path) bool { return len(p.Entries) > 3 }) {
			long++
		}
	})
	if long < 100 || many < 100 {
		t.Errorf("few of a kind: %d with a long path, %d with many", long, many)
	}
}

// Where there are more paths than can be made, the first ones are as they would be.
func TestTheFirstOfVeryManyPaths(t *testing.T) {
	s := source(104)
	many := 0
	for range 400 {
		n := s.net(2, 8+s.below(20))
		state := s.state(n)
		if _, all := tellPaths(n, state, 64); all {
			continue
		}
		many++
		var last []api.Path
		for p := range step.Paths(n, state, 64) {
			if header, applied, errno := tellFollow(n, state, p.Ports); header != p.Header || applied != len(p.Entries) || errno != api.OK {
				t.Fatalf("P10.4: %v: no path %v of %v", n, p, state)
			}
			if last = append(last, p); len(last) == 40 {
				break
			}
		}
		if !slices.IsSortedFunc(last, func(a, b api.Path) int { return slices.Compare(choices(n, a), choices(n, b)) }) {
			t.Fatalf("P10.4: %v: not in their order: %v", n, last)
		}
	}
	if many < 20 {
		t.Errorf("few networks with very many paths: %d", many)
	}
}

// choices: the places of a path's out-ports in the lists of its entries.
func choices(n api.Net, p api.Path) []int {
	var entries []api.Entry
	for _, table := range n.Tables {
		entries = append(entries, table...)
	}
	outs := slices.Clone(p.Ports)
	if !n.Ports[outs[0]].In {
		outs = outs[1:]
	}
	outs = slices.DeleteFunc(outs, func(port int) bool { return n.Ports[port].In })
	for at, q := range outs {
		outs[at] = slices.Index(entries[p.Entries[at]].Outs, q)
	}
	return outs
}

// bush: a box whose in-port 0 sends each packet to four out-ports that all lead back to it.
func bush() api.Net {
	n := api.Net{Bits: 1, Guards: make([][]api.Guard, 5), Tables: [][]api.Entry{{{Ins: []int{0}, Cubes: []string{"x"}, Write: "x", Outs: []int{3, 1, 4, 2}}}}}
	for p, to := range []int{-1, 0, 0, 0, 0} {
		n.Ports = append(n.Ports, api.Port{Name: fmt.Sprint("A.p", p), In: p == 0, To: to})
	}
	return n
}

// bushOuts: the out-ports of the path of that number among the 4^hops ones.
func bushOuts(number, hops int) []int {
	outs := make([]int, hops)
	for at := range slices.Backward(outs) {
		outs[at] = []int{3, 1, 4, 2}[number%4]
		number /= 4
	}
	return outs
}

// 4^64 paths: as many as are asked for, each with all its hops, in the order of the entry's out-ports.
func TestPathsOneByOne(t *testing.T) {
	for _, hops := range []int{3, 5, 31, 64} {
		for _, stop := range []int{1, 2, 63, 64, 300} {
			number := 0
			for p := range step.Paths(bush(), at(0, "1"), hops) {
				ports := []int{0}
				for _, q := range bushOuts(number, hops) {
					ports = append(ports, q, 0)
				}
				if !samePath(p, path("1", ports, make([]int, hops)...)) {
					t.Fatalf("P10.4: the path %d of %d hops: %v; want %v", number, hops, p, ports)
				}
				if number++; number == stop {
					break
				}
			}
			if want := min(stop, 1<<(2*min(hops, 20))); number != want {
				t.Errorf("P10.4: %d paths of %d hops, want %d", number, hops, want)
			}
		}
	}
}

// One that was told to stop hands on nothing more, wherever that is.
func TestPathsStop(t *testing.T) {
	seq := step.Paths(bush(), at(0, "0"), 2)
	for stop := 1; stop <= 17; stop++ {
		calls := 0
		seq(func(api.Path) bool {
			calls++
			return calls < stop
		})
		if calls != min(stop, 16) {
			t.Errorf("W1: told to stop at %d, handed on %d", stop, calls)
		}
	}
}

// Ranged over again, and by loops one inside another, three deep.
func TestPathsAgainAndWithin(t *testing.T) {
	seq := step.Paths(bush(), at(0, "0"), 2)
	var want []api.Path
	for p := range seq {
		want = append(want, p)
	}
	if len(want) != 16 {
		t.Fatalf("P10.4: %d paths", len(want))
	}
	a := 0
	for p := range seq {
		b := 0
		for q := range seq {
			c := 0
			for r := range seq {
				if !samePath(r, want[c]) {
					t.Fatalf("P10.4: innermost %d: %v", c, r)
				}
				if c++; c > a {
					break
				}
			}
			if !samePath(q, want[b]) {
				t.Fatalf("P10.4: inside %d: %v", b, q)
			}
			if b++; b > 5 {
				break
			}
		}
		if !samePath(p, want[a]) {
			t.Fatalf("P10.4: outside %d: %v", a, p)
		}
		a++
	}
	if a != 16 {
		t.Errorf("P10.4: %d paths outside", a)
	}
}

// An entry that leaves no state is not among Entries; hops of 0 tell the beginning alone, with a link that is gone along at once.
func TestEndsOfPaths(t *testing.T) {
	n := exampleNet()
	n.Tables[1][0].Outs = nil
	checkPaths(t, n, at(0, "101"), 8, path("111", []int{0, 1, 3}, 0))
	n = exampleNet()
	n.Guards[4] = []api.Guard{{Permit: true, Cubes: []string{"1xx"}}}
	checkPaths(t, n, at(0, "101"), 8, path("111", []int{0, 1, 3}, 0))
	e := exampleNet()
	checkPaths(t, e, at(2, "101"), 0, path("101", []int{2}))
	checkPaths(t, e, at(2, "101"), 64, path("101", []int{2}))
	checkPaths(t, e, at(1, "101"), 0, path("101", []int{1, 3}))
	checkPaths(t, e, at(1, "101"), 1, path("001", []int{1, 3, 4, 0}, 2))
	checkPaths(t, e, at(1, "101"), 2, path("001", []int{1, 3, 4, 0, 2}, 2, 1))
	checkPaths(t, e, at(1, "100"), 64, path("100", []int{1, 3}))
}

// What was handed in may be written over behind the call: the paths are those of what it was.
func TestPathsKeepNothing(t *testing.T) {
	for range 2 {
		n := exampleNet()
		seq := step.Paths(n, at(0, "100"), 8)
		spoil := func() {
			for at := range n.Ports {
				n.Ports[at] = api.Port{To: 99, Box: 99}
				n.Guards[at] = []api.Guard{{}}
			}
			for _, table := range n.Tables {
				for at := range table {
					clear(table[at].Ins)
					clear(table[at].Cubes)
					clear(table[at].Outs)
					table[at] = api.Entry{}
				}
				clear(table)
			}
			clear(n.Tables)
		}
		count := 0
		for p := range seq {
			spoil()
			want := []api.Path{path("110", []int{0, 1, 3}, 0), path("110", []int{0, 2}, 0)}[count]
			if count++; !samePath(p, want) {
				t.Errorf("W6: %v, want %v", p, want)
			}
		}
		for range seq {
			count++
		}
		if count != 4 {
			t.Errorf("W6: %d paths in two loops", count)
		}
	}
	n := exampleNet()
	inner := n.Guards[2]
	seq := step.Paths(n, at(0, "101"), 8)
	inner[0].Cubes[0], inner[1].Permit = "xxx", false
	for p := range seq {
		if !samePath(p, path("011", []int{0, 1, 3, 4, 0, 2}, 0, 2, 1)) {
			t.Errorf("W6: the guard is another: %v", p)
		}
	}
}

// What a network is is asked when Paths is called: a list that becomes right later does not help.
func TestPathsOfWhatWasNoNetwork(t *testing.T) {
	n := exampleNet()
	n.Ports[1].To = 4
	seq := step.Paths(n, at(0, "100"), 8)
	n.Ports[1].To = 3
	for p := range seq {
		t.Errorf("P10.1: %v", p)
	}
}
