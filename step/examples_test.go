package step_test

// The examples of chapter 10.

import (
	"slices"
	"testing"

	"reach/api"
	"reach/step"
)

// exampleNet: the network E.
func exampleNet() api.Net {
	return api.Net{
		Bits: 3,
		Ports: []api.Port{
			{Name: "A.a", Box: 0, In: true, To: -1}, {Name: "A.b", Box: 0, To: 3}, {Name: "A.c", Box: 0, To: -1},
			{Name: "B.a", Box: 1, In: true, To: -1}, {Name: "B.b", Box: 1, To: 0},
		},
		Tables: [][]api.Entry{
			{{Ins: []int{0}, Cubes: []string{"1xx"}, Write: "x1x", Outs: []int{1, 2}}, {Ins: []int{0}, Cubes: []string{"xxx"}, Write: "xxx", Outs: []int{2}}},
			{{Ins: []int{3}, Cubes: []string{"xx1"}, Write: "0xx", Outs: []int{4}}},
		},
		Guards: [][]api.Guard{nil, nil, {{Cubes: []string{"111"}}, {Permit: true, Cubes: []string{"xxx"}}}, nil, nil},
	}
}

func at(port int, header string) api.State { return api.State{Port: port, Header: header} }

func path(header string, ports []int, entries ...int) api.Path {
	return api.Path{Ports: ports, Entries: entries, Header: header}
}

func checkNext(t *testing.T, n api.Net, s api.State, entry int, states []api.State, errno api.Errno) {
	t.Helper()
	gotEntry, got, gotErrno := step.Next(n, s)
	if gotEntry != entry || !slices.Equal(got, states) || gotErrno != errno {
		t.Fatalf("P10.3: Next(%.3000v, %v): %d, %v, %d; want %d, %v, %d", n, s, gotEntry, got, gotErrno, entry, states, errno)
	}
}

func checkPaths(t *testing.T, n api.Net, s api.State, hops int, want ...api.Path) {
	t.Helper()
	var got []api.Path
	for p := range step.Paths(n, s, hops) {
		if got = append(got, p); len(got) > len(want) {
			break
		}
	}
	if !slices.EqualFunc(got, want, samePath) {
		t.Fatalf("P10.4: Paths(%.3000v, %v, %d): %v; want %v", n, s, hops, got, want)
	}
}

func checkReach(t *testing.T, n api.Net, s api.State, to, hops int, want api.Path, found bool, errno api.Errno) {
	t.Helper()
	got, gotFound, gotErrno := step.Reach(n, s, to, hops)
	if !samePath(got, want) || gotFound != found || gotErrno != errno {
		t.Fatalf("P10.5: Reach(%.3000v, %v, %d, %d): %v, %v, %d; want %v, %v, %d", n, s, to, hops, got, gotFound, gotErrno, want, found, errno)
	}
}

func checkLoop(t *testing.T, n api.Net, s api.State, hops int, want api.Path, found bool, errno api.Errno) {
	t.Helper()
	got, gotFound, gotErrno := step.Loop(n, s, hops)
	if !samePath(got, want) || gotFound != found || gotErrno != errno {
		t.Fatalf("P10.6: Loop(%.3000v, %v, %d): %v, %v, %d; want %v, %v, %d", n, s, hops, got, gotFound, gotErrno, want, found, errno)
	}
}

func checkFollow(t *testing.T, n api.Net, s api.State, ports []int, header string, number int, errno api.Errno) {
	t.Helper()
	gotHeader, gotNumber, gotErrno := step.Follow(n, s, ports)
	if gotHeader != header || gotNumber != number || gotErrno != errno {
		t.Fatalf("P10.7: Follow(%.3000v, %v, %v): %q, %d, %d; want %q, %d, %d", n, s, ports, gotHeader, gotNumber, gotErrno, header, number, errno)
	}
}

func TestExamplesOfNext(t *testing.T) {
	e := exampleNet()
	checkIsNet(t, e)
	checkNext(t, e, at(0, "101"), 0, []api.State{at(1, "111"), at(3, "111")}, api.OK)
	checkNext(t, e, at(0, "100"), 0, []api.State{at(1, "110"), at(3, "110"), at(2, "110")}, api.OK)
	checkNext(t, e, at(0, "011"), 1, []api.State{at(2, "011")}, api.OK)
	checkNext(t, e, at(3, "110"), -1, nil, api.OK)
	checkNext(t, e, at(3, "111"), 2, []api.State{at(4, "011"), at(0, "011")}, api.OK)
	checkNext(t, e, at(1, "000"), -1, []api.State{at(3, "000")}, api.OK)
	checkNext(t, e, at(2, "000"), -1, nil, api.OK)
	checkNext(t, e, at(0, "10"), 0, nil, api.ErrState)
}

func TestExamplesOfPaths(t *testing.T) {
	e := exampleNet()
	checkPaths(t, e, at(0, "101"), 8, path("011", []int{0, 1, 3, 4, 0, 2}, 0, 2, 1))
	checkPaths(t, e, at(0, "100"), 8, path("110", []int{0, 1, 3}, 0), path("110", []int{0, 2}, 0))
	checkPaths(t, e, at(0, "101"), 1, path("111", []int{0, 1, 3}, 0))
	checkPaths(t, e, at(0, "101"), 0, path("101", []int{0}))
}

func TestExamplesOfReachAndLoop(t *testing.T) {
	e := exampleNet()
	checkReach(t, e, at(0, "101"), 2, 8, path("011", []int{0, 1, 3, 4, 0, 2}, 0, 2, 1), true, api.OK)
	checkReach(t, e, at(0, "101"), 2, 2, api.Path{}, false, api.OK)
	checkReach(t, e, at(0, "100"), 1, 8, path("110", []int{0, 1}, 0), true, api.OK)
	checkReach(t, e, at(1, "000"), 3, 0, path("000", []int{1, 3}), true, api.OK)
	checkLoop(t, e, at(0, "101"), 8, path("011", []int{0, 1, 3, 4, 0}, 0, 2), true, api.OK)
	checkLoop(t, e, at(0, "100"), 8, api.Path{}, false, api.OK)
}

func TestExamplesOfFollow(t *testing.T) {
	e := exampleNet()
	checkFollow(t, e, at(0, "101"), []int{0, 1, 3, 4}, "011", 2, api.OK)
	checkFollow(t, e, at(0, "101"), []int{0, 2}, "", 1, api.ErrOff)
	checkFollow(t, e, at(0, "101"), nil, "", 0, api.ErrOff)
}
