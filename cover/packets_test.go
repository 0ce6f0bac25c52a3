package cover_test

// P15.4, P15.5: what whoever plays the packets finds.

import (
	"fmt"
	"slices"
	"testing"

	"reach/api"
	"reach/cover"
	"reach/step"
	"reach/tern"
)

// played: the entries that a packet meets: those on its whole paths, and, where such a path ends at an in-port with entries to spare, the one that is applied there and leaves nothing.
func (a asking) played(s api.State) []int {
	met := map[int]bool{}
	for p := range step.Paths(a.n, s, a.hops) {
		for _, e := range p.Entries {
			met[e] = true
		}
		end := api.State{Port: p.Ports[len(p.Ports)-1], Header: p.Header}
		if len(p.Entries) < a.hops {
			e, _, _ := step.Next(a.n, end)
			met[e] = e >= 0
		}
	}
	return numbersOf(met)
}

// everywhere: for each door and each header, what it meets.
func (a asking) everywhere() map[api.State][]int {
	all := map[api.State][]int{}
	for _, door := range a.doors {
		for h := range tern.All(a.n.Bits).Members() {
			s := api.State{Port: door, Header: h}
			all[s] = a.played(s)
		}
	}
	return all
}

// checkPlayed: P15.4 of an answer.
func (a asking) checkPlayed(t *testing.T, c api.Coverage, all map[api.State][]int) {
	t.Helper()
	fail := func(what string, more ...any) {
		t.Fatalf("P15.4: %v: %s: %s: %v", a, text(c, api.OK), what, more)
	}
	met := map[int]bool{}
	for _, p := range c.Packets {
		if hits := all[api.State{Port: p.Port, Header: p.Header}]; !slices.Equal(hits, p.Hits) {
			fail("a packet meets others", p, hits)
		}
		if !slices.ContainsFunc(p.Hits, func(e int) bool { return !met[e] }) {
			fail("a packet is of no use", p)
		}
		for _, e := range p.Hits {
			met[e] = true
		}
	}
	dead := map[int]bool{}
	for at, d := range c.Dead {
		dead[d.Entry] = true
		if at > 0 && c.Dead[at-1].Entry >= d.Entry {
			fail("the dead do not rise")
		}
	}
	for entry := range a.entries() {
		if met[entry] == dead[entry] {
			fail("an entry is met and dead, or neither", entry)
		}
	}
	for s, hits := range all {
		if slices.ContainsFunc(hits, func(e int) bool { return dead[e] }) {
			fail("a header meets a dead entry", s, hits)
		}
	}
	if len(c.Packets) > c.Live || c.Live != len(met) || c.Live+len(c.Dead) != len(a.entries()) {
		fail("the numbers", len(c.Packets), c.Live, len(met), len(c.Dead))
	}
}

// isApplied: whether some header at one of its in-ports is one that the entry is applied to.
func (a asking) isApplied(entry int) bool {
	for _, in := range a.entries()[entry].Ins {
		for h := range tern.All(a.n.Bits).Members() {
			if e, _, _ := step.Next(a.n, api.State{Port: in, Header: h}); e == entry {
				return true
			}
		}
	}
	return false
}

// checkReasons: Why, by single packets.
func (a asking) checkReasons(t *testing.T, c api.Coverage, met map[int]int) {
	t.Helper()
	for _, d := range c.Dead {
		e := a.entries()[d.Entry]
		want := api.DeadHidden
		switch {
		case len(e.Ins) == 0 || len(e.Cubes) == 0:
			want = api.DeadEmpty
		case a.isApplied(d.Entry):
			want = api.DeadUnmet
		}
		if d.Why != want {
			t.Fatalf("P15.3: %v: %s: of entry %d the reason is %d", a, text(c, api.OK), d.Entry, want)
		}
		met[d.Why]++
	}
}

// checkMeets: P15.5 of all doors and entries.
func (a asking) checkMeets(t *testing.T, c api.Coverage, all map[api.State][]int) {
	t.Helper()
	for entry := range a.entries() {
		found := false
		for _, door := range a.doors {
			told, errno := cover.Meets(a.n, door, entry, a.hops, a.budget)
			if errno != api.OK {
				return
			}
			s := read(t, a.n.Bits, told)
			for h := range tern.All(a.n.Bits).Members() {
				is := slices.Contains(all[api.State{Port: door, Header: h}], entry)
				found = found || is
				if s.Has(h) != is {
					t.Fatalf("P15.5: %v: Meets of %d and entry %d is %s: %s meets it: %v", a, door, entry, told, h, is)
				}
			}
		}
		if dead := slices.ContainsFunc(c.Dead, func(d api.Dead) bool { return d.Entry == entry }); dead == found {
			t.Fatalf("P15.5: %v: %s: entry %d is met by a header: %v", a, text(c, api.OK), entry, found)
		}
	}
}

func TestPacketByPacket(t *testing.T) {
	s := source(61)
	packets, reasons := 0, map[int]int{}
	for range 500 {
		a := s.asking(s.small())
		a.hops, a.budget = s.below(7), api.MaxBudget
		c, errno := a.cover()
		if errno != api.OK {
			continue
		}
		all := a.everywhere()
		a.checkPlayed(t, c, all)
		a.checkReasons(t, c, reasons)
		a.checkMeets(t, c, all)
		packets += len(c.Packets)
	}
	if packets < 300 || reasons[1] < 50 || reasons[2] < 50 || reasons[3] < 50 {
		t.Errorf("the trial shows less than it should: %d, %v", packets, reasons)
	}
}

func TestTheExamplePacketByPacket(t *testing.T) {
	reasons := map[int]int{}
	for _, doors := range [][]int{nil, {0}, {2}, {0, 2}, {2, 0}} {
		for hops := range 8 {
			a := asking{exampleNet(), doors, hops, 50}
			c, errno := a.cover()
			if errno != api.OK {
				t.Fatalf("%v: %d", a, errno)
			}
			all := a.everywhere()
			a.checkPlayed(t, c, all)
			a.checkReasons(t, c, reasons)
			a.checkMeets(t, c, all)
		}
	}
}

// P0.10: the same for a network as it is written, from its doors.
func TestTheLabPacketByPacket(t *testing.T) {
	n := numbered(t, labText)
	for unlinked := range len(n.Ports) {
		n := numbered(t, labText)
		n.Ports[unlinked].To = -1
		doors, errno := cover.Doors(n)
		if errno != api.OK {
			t.Fatal(errno)
		}
		for hops := range 7 {
			a := asking{n, doors, hops, api.MaxBudget}
			c, errno := a.cover()
			if errno != api.OK {
				t.Fatalf("%v: %d", a, errno)
			}
			all := a.everywhere()
			a.checkPlayed(t, c, all)
			a.checkMeets(t, c, all)
		}
	}
	if doorsOf(n) != "[]" {
		t.Error("the lab has doors")
	}
}

// An entry that sends nowhere, or only to out-ports that stop all, is met like others; one behind a guard that stops all is not.
func TestWhereAnEntrySendsDoesNotMatter(t *testing.T) {
	for what, do := range map[string]func(n *api.Net){
		"it drops":                  func(n *api.Net) { n.Tables[1][0].Outs = nil },
		"the out-ports stop all":    func(n *api.Net) { n.Guards[3], n.Guards[4] = stopped(), stopped() },
		"an out-port has no link":   func(n *api.Net) { n.Ports[3].To = -1 },
		"the next in-port stops it": func(n *api.Net) { n.Guards[0] = []api.Guard{{Permit: true, Cubes: []string{"0x"}}} },
	} {
		n := exampleNet()
		do(&n)
		check(t, "P15.3: "+what, covered(n, []int{2}, 4, 50), "2:00[1] 2:10[2] live 2 0:3")
		check(t, "P15.2: "+what, meets(n, 2, 1, 1, 50), "0x")
	}
	n := exampleNet()
	n.Guards[2] = stopped()
	check(t, "P15.3: the in-port stops all", covered(n, []int{2}, 4, 50), "live 0 0:3 1:2 2:2")
	check(t, "P15.2: the in-port stops all", fmt.Sprint(meets(n, 2, 1, 1, 50), meets(n, 0, 1, 4, 50)), "nonenone")
}

// stopped: a guard that stops all.
func stopped() []api.Guard { return []api.Guard{{Cubes: []string{"xx"}}} }
