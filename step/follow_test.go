package step_test

import (
	"slices"
	"testing"

	"reach/api"
	"reach/step"
)

// Along every path of mixed networks, and along paths with one port changed, added or left out.
func TestFollowOfMixedNetworks(t *testing.T) {
	s := source(108)
	codes := map[api.Errno]int{}
	eachCase(t, 109, 700, func(n api.Net, state api.State, hops int, list []told) {
		for _, p := range list[:min(len(list), 12)] {
			if len(p.Ports) > 130 {
				continue
			}
			checkFollow(t, n, state, p.Ports, p.Header, len(p.Entries), api.OK)
			ports := slices.Clone(p.Ports)
			place := s.below(len(ports))
			port := s.below(len(n.Ports)+3) - 2
			switch s.below(4) {
			case 0:
				ports[place] = port
			case 1:
				ports = slices.Insert(ports, place, port)
			case 2:
				ports = slices.Delete(ports, place, place+1)
			case 3:
				ports = append(ports, port)
			}
			header, number, errno := tellFollow(n, state, ports)
			checkFollow(t, n, state, ports, header, number, errno)
			codes[errno]++
		}
	})
	if codes[api.OK] < 500 || codes[api.ErrOff] < 500 {
		t.Errorf("few of a kind: %v", codes)
	}
}

func TestPortsThatDoNotFollow(t *testing.T) {
	e, s := exampleNet(), at(0, "101")
	for _, x := range []struct {
		ports []int
		place int
	}{
		{[]int{1}, 0}, {[]int{3, 4}, 0}, {[]int{-1}, 0}, {[]int{0, 0}, 1}, {[]int{0, 3}, 1}, {[]int{0, 2}, 1}, {[]int{0, 4}, 1}, {[]int{0, -1}, 1}, {[]int{0, 5}, 1},
		{[]int{0, 1, 1}, 2}, {[]int{0, 1, 4}, 2}, {[]int{0, 1, 0}, 2}, {[]int{0, 1, 3, 0}, 3}, {[]int{0, 1, 3, 4, 3}, 4}, {[]int{0, 1, 3, 4, 0, 1}, 5},
		{[]int{0, 1, 3, 4, 0, 2, -1}, 6}, {[]int{0, 1, 3, 4, 0, 2, 0}, 6}, {[]int{0, 1, 3, 4, 0, 2, 2}, 6}, {[]int{0, 1, 3, 4, 0, 9, 9}, 5},
	} {
		checkFollow(t, e, s, x.ports, "", x.place, api.ErrOff)
	}
	checkFollow(t, e, at(2, "101"), []int{2}, "101", 0, api.OK)
	checkFollow(t, e, at(2, "101"), []int{2, -1}, "", 1, api.ErrOff)
	checkFollow(t, e, at(4, "101"), []int{4, 0, 1, 3}, "111", 1, api.OK)
	checkFollow(t, e, at(3, "110"), []int{3, 4}, "", 1, api.ErrOff)
}

// The longest list that is looked at: 130 ports, with 65 entries; no hops bound it.
func TestTheLongestList(t *testing.T) {
	ports := slices.Repeat([]int{0, 3}, 66)
	checkFollow(t, bush(), at(0, "1"), ports[:130], "1", 65, api.OK)
	checkFollow(t, bush(), at(3, "1"), ports[1:131], "1", 64, api.OK)
	checkFollow(t, bush(), at(0, "1"), ports[:131], "", 0, api.ErrLong)
	checkFollow(t, bush(), at(0, "1"), append(slices.Clone(ports[:129]), 0), "", 129, api.ErrOff)
	checkFollow(t, bush(), at(0, "1"), make([]int, 1<<20), "", 0, api.ErrLong)
	checkFollow(t, bush(), at(0, "1"), slices.Clone(ports)[:1], "1", 0, api.OK)
}

// What Reach and Loop tell is followed.
func TestFollowTheSearches(t *testing.T) {
	s := source(110)
	for range 400 {
		n := s.net(3, 20)
		state := s.state(n)
		if p, found, _ := step.Loop(n, state, 64); found {
			checkFollow(t, n, state, p.Ports, p.Header, len(p.Entries), api.OK)
		}
		if p, found, _ := step.Reach(n, state, s.below(20), 64); found {
			checkFollow(t, n, state, p.Ports, p.Header, len(p.Entries), api.OK)
		}
	}
}
