package model_test

import (
	"fmt"
	"regexp"
	"slices"
	"testing"

	"reach/api"
	"reach/conf"
	"reach/model"
)

// checkAll holds every call on one network against the second telling.
func checkAll(t *testing.T, s *source, c api.Config) offence {
	t.Helper()
	want := tellCheck(c)
	if errno, told := model.Check(c); errno != want.errno || told != want.told {
		t.Fatalf("P7.1: Check says %d, %q; want %v, of %+v", errno, told, want, c)
	}
	ports, errno := model.Ports(c)
	if wantPorts, wantErrno := tellPorts(c); errno != wantErrno || !equal(ports, wantPorts) {
		t.Fatalf("P7.3: Ports: %v, %d; want %v, %d", ports, errno, wantPorts, wantErrno)
	}
	edges, errno := model.Edges(c)
	if wantEdges, wantErrno := tellEdges(c); errno != wantErrno || !equal(edges, wantEdges) {
		t.Fatalf("P7.5: Edges: %v, %d; want %v, %d", edges, errno, wantEdges, wantErrno)
	}
	ins, outs := fullNames(c)
	for _, name := range append(pick(s, append(ins, outs...), 2), s.oneOf("", ".", "a", "B1", "B1.p0", "B1.", ".p0", "B1.p0.p0", " B1.p0")) {
		if n, want := model.Find(c, name), tellFind(c, name); n != want {
			t.Fatalf("P7.4: Find %q: %d; want %d", name, n, want)
		}
	}
	zones := many(len(c.Slices), func(n int) string { return c.Slices[n].Name })
	for _, name := range append(pick(s, zones, 2), s.oneOf("", "none", "s99")) {
		zone, errno := model.Zone(c, name)
		if wantZone, wantErrno := tellZone(c, name); errno != wantErrno || !equal(zone, wantZone) {
			t.Fatalf("P7.6: Zone %q: %v, %d; want %v, %d", name, zone, errno, wantZone, wantErrno)
		}
	}
	return want
}

func TestWellFormedNetworks(t *testing.T) {
	s := source(71)
	for n := range 400 {
		c := s.network(1 + n%16)
		if why := checkAll(t, &s, c); why.errno != api.OK {
			t.Fatalf("the source gives a network with an offence: %v", why)
		}
	}
}

// kindOf: an offence without the names that it tells.
func kindOf(why offence) string {
	told := regexp.MustCompile(`^\S+ (guard|rule|own|route)`).FindStringSubmatch(why.told)
	if told != nil {
		return fmt.Sprint(why.errno, " ", told[1])
	}
	return fmt.Sprint(int(why.errno))
}

// kinds: what damages of single leaves and lists come to, but for counts.
var kinds = []string{"0", "36", "70", "71", "71 rule", "72", "72 rule", "73", "73 guard", "73 own", "73 route", "73 rule", "74", "74 own", "74 route", "74 rule", "75", "76 rule", "77", "77 guard", "77 rule", "78 own", "78 route", "79 rule"}

func TestDamagedNetworks(t *testing.T) {
	s := source(72)
	times := map[string]int{}
	for n := range 4000 {
		c := s.damaged(s.network(1 + n%4))
		for range s.below(3) {
			c = s.damaged(c)
		}
		times[kindOf(checkAll(t, &s, c))]++
	}
	for _, kind := range kinds {
		if times[kind] == 0 {
			t.Errorf("none of the damaged networks came to %s", kind)
		}
	}
}

// What Check lets through is printed, and read as what it was.
func TestWellFormedNetworksArePrinted(t *testing.T) {
	s := source(73)
	printed, long := 0, 0
	check := func(c api.Config) {
		t.Helper()
		if errno, _ := model.Check(c); errno != api.OK {
			return
		}
		text, errno := conf.Print(c)
		if errno == api.ErrLong {
			long++
			return
		}
		printed++
		if again, failed, line := conf.Parse(text); errno != api.OK || failed != api.OK || line != 0 || !equal(again, c) {
			t.Fatalf("P7.2: printed (%d) and read (%d): %+v; want %+v", errno, failed, again, c)
		}
	}
	check(atTheLimits())
	check(plain(t))
	for n := range 500 {
		c := s.network(1 + n%16)
		check(c)
		check(s.damaged(c))
	}
	for range 100 {
		c := atTheLimits()
		c.Boxes = c.Boxes[:1+s.below(16)]
		c.Links, c.Slices = nil, nil
		for _, b := range c.Boxes {
			for k := range b.Rules {
				b.Rules[k].Match = s.longMatch(c.Fields)
			}
		}
		check(c)
	}
	if printed < 500 || long < 20 {
		t.Errorf("only %d networks were printed, and %d were too long", printed, long)
	}
}

// The order of the links, and of all else that stands in no list of ports, says nothing for the numbers.
func TestNumbersDoNotHangOnTheOrderOfLinks(t *testing.T) {
	s := source(74)
	for range 200 {
		c := s.network(6)
		turned := cloned(c)
		slices.Reverse(turned.Links)
		if len(turned.Links) > 2 {
			turned.Links[0], turned.Links[1] = turned.Links[1], turned.Links[0]
		}
		ports, _ := model.Ports(c)
		edges, _ := model.Edges(c)
		again, _ := model.Ports(turned)
		turnedEdges, _ := model.Edges(turned)
		if !equal(ports, again) || !equal(edges, turnedEdges) {
			t.Fatalf("P7.5: with the links turned: %v, %v; want %v, %v", again, turnedEdges, ports, edges)
		}
		if !slices.IsSortedFunc(edges, func(a, b api.Edge) int { return a.Out - b.Out }) || len(edges) != len(c.Links) {
			t.Fatalf("P7.5: the edges are %v", edges)
		}
	}
}

// A map is gone through in another order each time; nothing of it is to be seen.
func TestAnswersAreTheSameEachTime(t *testing.T) {
	c := atTheLimits()
	ports, _ := model.Ports(c)
	edges, _ := model.Edges(c)
	zone, _ := model.Zone(c, "s3")
	for range 50 {
		p, _ := model.Ports(c)
		e, _ := model.Edges(c)
		z, _ := model.Zone(c, "s3")
		if !equal(p, ports) || !equal(e, edges) || !equal(z, zone) {
			t.Fatalf("W2: another answer to the same call: %v, %v, %v", p, e, z)
		}
	}
}
