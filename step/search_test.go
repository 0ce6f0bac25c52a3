package step_test

import (
	"fmt"
	"strings"
	"testing"

	"reach/api"
	"reach/step"
)

func TestReachOfMixedNetworks(t *testing.T) {
	near, far, none := 0, 0, 0
	eachCase(t, 105, 1500, func(n api.Net, s api.State, hops int, list []told) {
		for to := range n.Ports {
			want, found := tellReach(list, to)
			checkReach(t, n, s, to, hops, want, found, api.OK)
			switch {
			case !found:
				none++
			case len(want.Entries) > 1:
				far++
			default:
				near++
			}
		}
	})
	if near < 1000 || far < 300 || none < 1000 {
		t.Errorf("few of a kind: %d near, %d far, %d not found", near, far, none)
	}
}

func TestLoopOfMixedNetworks(t *testing.T) {
	near, far, none := 0, 0, 0
	eachCase(t, 106, 3000, func(n api.Net, s api.State, hops int, list []told) {
		want, found := tellLoop(list)
		checkLoop(t, n, s, hops, want, found, api.OK)
		switch {
		case !found:
			none++
		case len(want.Entries) > 1:
			far++
		default:
			near++
		}
	})
	if near < 300 || far < 100 || none < 300 {
		t.Errorf("few of a kind: %d near, %d far, %d not found", near, far, none)
	}
}

// levels: at which ports, by how many entries first, a packet comes; all states of a level at once.
func levels(n api.Net, s api.State, hops int) map[int]int {
	first := map[int]int{s.Port: 0}
	states := map[api.State]int{s: 0}
	if to := n.Ports[s.Port].To; to != -1 {
		first[to] = 0
		states = map[api.State]int{{Port: to, Header: s.Header}: 0}
	}
	for level := 1; level <= hops; level++ {
		next := map[api.State]int{}
		for state := range states {
			if !n.Ports[state.Port].In {
				continue
			}
			_, told := tellNext(n, state)
			for _, there := range told {
				if _, known := first[there.Port]; !known {
					first[there.Port] = level
				}
				if n.Ports[there.Port].In {
					next[there] = level
				}
			}
		}
		states = next
	}
	return first
}

// With many hops, where all paths are too many to be gone through: the number of entries is the least, and the path is one.
func TestReachIsNearest(t *testing.T) {
	s := source(107)
	far := 0
	for range 900 {
		n := s.net(1+s.below(6), 10+s.below(30))
		state, hops := s.state(n), []int{1, 2, 7, 64}[s.below(4)]
		first := levels(n, state, hops)
		for to := range n.Ports {
			p, found, errno := step.Reach(n, state, to, hops)
			level, known := first[to]
			if errno != api.OK || found != known || found && len(p.Entries) != level {
				t.Fatalf("P10.5: %v: %v to %d in %d: %v, %v, %d; want %d, %v", n, state, to, hops, p, found, errno, level, known)
			}
			if !found {
				continue
			}
			if level > 2 {
				far++
			}
			header, applied, errno := step.Follow(n, state, p.Ports)
			if header != p.Header || applied != level || errno != api.OK || p.Ports[len(p.Ports)-1] != to {
				t.Fatalf("P10.5: %v: no path of %v: %v", n, state, p)
			}
		}
	}
	if far < 100 {
		t.Errorf("few ports far off: %d", far)
	}
}

// Of two nearest paths the one to the earlier out-port where they part; a path that is nearer counts more.
func TestTheEarlierOfTwo(t *testing.T) {
	n := api.Net{Bits: 1, Guards: make([][]api.Guard, 9)}
	for p, to := range []int{-1, -1, -1, 1, 2, 2, -1, 2, -1} { // 0 in of A, 1 in of B, 2 in of C; A's outs 3, 4, 5, 6; B's 7, C's 8
		n.Ports = append(n.Ports, api.Port{Name: fmt.Sprint("A.p", p), Box: []int{0, 1, 2, 0, 0, 0, 0, 1, 2}[p], In: p < 3, To: to})
	}
	to := func(in int, outs ...int) []api.Entry {
		return []api.Entry{{Ins: []int{in}, Cubes: []string{"x"}, Write: "x", Outs: outs}}
	}
	n.Tables = [][]api.Entry{to(0, 3, 6, 5, 4), to(1, 7), to(2, 8)}
	checkReach(t, n, at(0, "1"), 2, 9, path("1", []int{0, 5, 2}, 0), true, api.OK)
	checkReach(t, n, at(0, "1"), 8, 9, path("1", []int{0, 5, 2, 8}, 0, 2), true, api.OK)
	n.Tables[0] = to(0, 4, 3, 5)
	checkReach(t, n, at(0, "1"), 2, 9, path("1", []int{0, 4, 2}, 0), true, api.OK)
	n.Tables[0] = to(0, 3, 6)
	checkReach(t, n, at(0, "1"), 2, 9, path("1", []int{0, 3, 1, 7, 2}, 0, 1), true, api.OK)
	n.Ports[7].To, n.Ports[8].To, n.Tables[0] = 0, 0, to(0, 3, 5)
	checkLoop(t, n, at(0, "1"), 9, path("1", []int{0, 3, 1, 7, 0}, 0, 1), true, api.OK)
	n.Tables[0] = to(0, 5, 3)
	checkLoop(t, n, at(0, "1"), 9, path("1", []int{0, 5, 2, 8, 0}, 0, 2), true, api.OK)
	n.Ports[6].To, n.Tables[0] = 0, to(0, 5, 3, 6)
	checkLoop(t, n, at(0, "1"), 9, path("1", []int{0, 6, 0}, 0), true, api.OK)
	checkLoop(t, n, at(0, "1"), 0, api.Path{}, false, api.OK)
}

// A loop from an out-port: it is on the path, and looked at ahead of the in-port behind it.
func TestLoopsFromAnOutPort(t *testing.T) {
	e := exampleNet()
	checkLoop(t, e, at(4, "101"), 8, path("011", []int{4, 0, 1, 3, 4}, 0, 2), true, api.OK)
	checkLoop(t, e, at(4, "101"), 1, api.Path{}, false, api.OK)
	checkLoop(t, e, at(2, "101"), 64, api.Path{}, false, api.OK)
	checkLoop(t, bush(), at(1, "1"), 1, path("1", []int{1, 0, 3, 0}, 0), true, api.OK)
	checkLoop(t, bush(), at(3, "1"), 64, path("1", []int{3, 0, 3}, 0), true, api.OK)
}

// tree: a box in which a packet at in-port 0 with header 0 comes to 2^k states by k entries, for k up to 11: 4095 states in all. Its header has 12 bits in which each in-port 1 leaves a mark, and behind them a 1 for each level that is done.
// Ports: 0, 1 in-ports, 2 and 3 out-ports that lead to them, 4 an out-port that is not linked, 5 one to the in-port 6 of another box.
func tree(last ...api.Entry) api.Net {
	n := api.Net{Bits: 25, Guards: make([][]api.Guard, 7), Tables: make([][]api.Entry, 2)}
	for p, to := range []int{-1, -1, 0, 1, -1, 6, -1} {
		n.Ports = append(n.Ports, api.Port{Name: fmt.Sprint("A.p", p), Box: p / 6, In: p < 2 || p == 6, To: to})
	}
	n.Tables[0] = append(n.Tables[0], last...)
	for level := range 11 {
		for in, mark := range []string{"x", "1"} {
			done := strings.Repeat("1", level)
			n.Tables[0] = append(n.Tables[0], api.Entry{
				Ins:   []int{in},
				Cubes: []string{strings.Repeat("x", 12) + done + "0" + strings.Repeat("x", 12-level)},
				Write: strings.Repeat("x", level) + mark + strings.Repeat("x", 11-level) + done + "1" + strings.Repeat("x", 12-level),
				Outs:  []int{2, 3},
			})
		}
	}
	return n
}

// treeState: at an in-port of the tree, with these marks, so many levels done.
func treeState(port int, marks string, level int) api.State {
	return at(port, marks+strings.Repeat("0", 12-len(marks))+strings.Repeat("1", level)+strings.Repeat("0", 13-level))
}

// leaf: an entry for one state of the tree's last level.
func leaf(s api.State, write string, outs ...int) api.Entry {
	return api.Entry{Ins: []int{s.Port}, Cubes: []string{s.Header}, Write: write, Outs: outs}
}

func TestReachGathersNoMoreStates(t *testing.T) {
	root := treeState(0, "", 0)
	first, second, third := treeState(0, "", 11), treeState(1, "", 11), treeState(0, "00000000001", 11)
	on, back := strings.Repeat("x", 23)+"1x", root.Header
	reach := func(what string, to, hops int, found bool, errno api.Errno, last ...api.Entry) {
		t.Helper()
		n := tree(last...)
		checkIsNet(t, n)
		p, gotFound, gotErrno := step.Reach(n, root, to, hops)
		if gotFound != found || gotErrno != errno || found && len(p.Entries) != 12 || !found && len(p.Ports) > 0 {
			t.Errorf("P10.5: %s, to %d within %d hops: %v, %v, %d; want %v, %d", what, to, hops, p, gotFound, gotErrno, found, errno)
		}
	}
	reach("4095 states", 4, 64, false, api.OK)
	reach("4096 states", 4, 64, false, api.OK, leaf(first, on, 2))
	reach("4097 states", 4, 64, false, api.ErrBudget, leaf(first, on, 2), leaf(second, on, 3))
	reach("4097 states of one entry", 4, 64, false, api.ErrBudget, leaf(first, on, 2, 3))
	reach("4097 states within the hops", 4, 12, false, api.ErrBudget, leaf(first, on, 2, 3))
	reach("4097 states beyond the hops", 4, 11, false, api.OK, leaf(first, on, 2, 3))
	reach("4096 states, and one of them again", 4, 64, false, api.OK, leaf(first, on, 2), leaf(second, back, 2), leaf(third, back, 2))
	reach("4096 states, and others behind the hops", 4, 12, false, api.OK, leaf(first, on, 2))
	reach("the end is there first", 4, 64, true, api.OK, leaf(first, on, 2), leaf(second, on, 4, 3))
	reach("the end is there behind the 4096th state", 4, 64, true, api.OK, leaf(first, on, 2, 4))
	reach("the end is there behind the 4097th state", 4, 64, false, api.ErrBudget, leaf(first, on, 2), leaf(second, on, 3, 4))
	reach("an end that is no state gathered", 6, 64, true, api.OK, leaf(first, on, 2), leaf(second, on, 5))
	reach("a linked end whose in-port would be one too many", 5, 64, true, api.OK, leaf(first, on, 2), leaf(second, on, 5))
	reach("a state at an in-port of another box", 4, 64, false, api.ErrBudget, leaf(first, on, 2), leaf(second, on, 5))
	reach("the in-port of another box as the 4096th", 4, 64, true, api.OK, leaf(first, on, 5), leaf(second, on, 4))
}

// layers: boxes one behind the other, box k with one in-port and as many out-ports to the next one's as many says; the last box's entry sends the packet to its own out-port, which leads to the in-port of the box called back, if that is one.
func layers(back int, many ...int) api.Net {
	n := api.Net{Bits: 1}
	add := func(box int, in bool, to int) int {
		n.Ports = append(n.Ports, api.Port{Name: fmt.Sprint("A.p", len(n.Ports)), Box: box, In: in, To: to})
		n.Guards = append(n.Guards, nil)
		return len(n.Ports) - 1
	}
	for box := range len(many) + 1 {
		add(box, true, -1)
	}
	for box, count := range many {
		e := api.Entry{Ins: []int{box}, Cubes: []string{"x"}, Write: "x"}
		for range count {
			e.Outs = append(e.Outs, add(box, false, box+1))
		}
		n.Tables = append(n.Tables, []api.Entry{e})
	}
	end := len(many)
	n.Tables = append(n.Tables, []api.Entry{{Ins: []int{end}, Cubes: []string{"x"}, Write: "x", Outs: []int{add(end, false, back)}}})
	return n
}

// One path, 3 that go on from it, and then 4 from each: 1, 3, 12, 48, 192, 768, 3072 are 4096 paths.
func TestLoopGathersNoMorePaths(t *testing.T) {
	loop := func(what string, n api.Net, hops int, found bool, errno api.Errno) {
		t.Helper()
		checkIsNet(t, n)
		p, gotFound, gotErrno := step.Loop(n, at(0, "1"), hops)
		if gotFound != found || gotErrno != errno || found != (len(p.Ports) > 0) {
			t.Errorf("P10.6: %s, within %d hops: %v, %v, %d; want %v, %d", what, hops, p, gotFound, gotErrno, found, errno)
		}
	}
	loop("4096 paths", layers(-1, 3, 4, 4, 4, 4, 4), 64, false, api.OK)
	loop("4096 paths, and back to the first port", layers(0, 3, 4, 4, 4, 4, 4), 64, true, api.OK)
	loop("4096 paths, and back to the last in-port", layers(6, 3, 4, 4, 4, 4, 4), 7, true, api.OK)
	loop("4096 paths, and back beyond the hops", layers(0, 3, 4, 4, 4, 4, 4), 6, false, api.OK)
	loop("4097 paths", layers(-1, 1, 3, 4, 4, 4, 4, 4), 64, false, api.ErrBudget)
	loop("4097 paths within the hops", layers(-1, 1, 3, 4, 4, 4, 4, 4), 7, false, api.ErrBudget)
	loop("4097 paths beyond the hops", layers(-1, 1, 3, 4, 4, 4, 4, 4), 6, false, api.OK)
	loop("4097 paths, and back behind them", layers(0, 1, 3, 4, 4, 4, 4, 4), 64, false, api.ErrBudget)
	twice := layers(0, 3, 4, 4, 4, 4, 4)
	twice.Tables[6][0].Outs = append(twice.Tables[6][0].Outs, len(twice.Ports))
	twice.Ports = append(twice.Ports, api.Port{Name: "A.z", Box: 6, To: -1})
	twice.Guards = append(twice.Guards, nil)
	twice.Tables[6][0].Outs[0], twice.Tables[6][0].Outs[1] = twice.Tables[6][0].Outs[1], twice.Tables[6][0].Outs[0]
	loop("an out-port that is not linked is no path gathered", twice, 64, true, api.OK)
	early := layers(-1, 1, 3, 4, 4, 4, 4, 4)
	early.Tables[1][0].Outs[2] = len(early.Ports)
	early.Ports = append(early.Ports, api.Port{Name: "A.z", Box: 1, To: 0})
	early.Guards = append(early.Guards, nil)
	loop("back ahead of all", early, 64, true, api.OK)
}

// The states of one packet in a circle are few, however many hops there are; its paths too.
func TestCirclesAreSmall(t *testing.T) {
	checkReach(t, bush(), at(0, "1"), 0, 64, path("1", []int{0}), true, api.OK)
	n := bush()
	n.Ports = append(n.Ports, api.Port{Name: "A.z", To: -1})
	n.Guards = append(n.Guards, nil)
	checkReach(t, n, at(0, "1"), 5, 64, api.Path{}, false, api.OK)
}
