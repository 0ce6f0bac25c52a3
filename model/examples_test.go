package model_test

// The examples of chapter 7.

import (
	"testing"

	"reach/api"
	"reach/conf"
	"reach/model"
)

// exampleN: the network N, with further lines in its boxes and behind it.
func exampleN(t *testing.T, inR1, inR2, behind string) api.Config {
	t.Helper()
	return parsed(t, "header dst:8\nrouting dst\nbox R1\nin a\nout b c\nrule 5 match dst = 1 to b\nown 64/2 to c\n"+inR1+"\nbox R2\nin a\nout b\n"+inR2+"\nlink R2.b -> R1.a cost 7\nlink R1.b -> R2.a\nslice red R2.a R1.a where dst < 2\n"+behind)
}

func parsed(t *testing.T, text string) api.Config {
	t.Helper()
	c, errno, line := conf.Parse(text)
	if errno != api.OK {
		t.Fatalf("%q is no network: %d in line %d", text, errno, line)
	}
	return c
}

func checkOffence(t *testing.T, what string, c api.Config, errno api.Errno, told string) {
	t.Helper()
	if e, s := model.Check(c); e != errno || s != told {
		t.Errorf("P7.1: %s: Check says %d, %q; want %d, %q", what, e, s, errno, told)
	}
}

func TestExamplesOfCheck(t *testing.T) {
	for _, x := range []struct {
		inR1, inR2, behind string
		errno              api.Errno
		told               string
	}{
		{"", "", "", api.OK, ""},
		{"rule 5 match any drop", "", "", api.ErrPriority, "R1 rule 5"},
		{"rule 6 from b match any drop", "", "", api.ErrSide, "R1 rule 6"},
		{"rule 6 match dst = 256 drop", "", "", api.ErrMatch, "R1 rule 6"},
		{"route 65/2 to b", "", "", api.ErrPrefix, "R1 route"},
		{"", "out a", "", api.ErrDouble, "R2.a"},
		{"", "", "link R1.b -> R1.a", api.ErrLinked, "R1.b"},
		{"", "", "link R1.a -> R2.a", api.ErrSide, "R1.a"},
		{"rule 5 match any drop", "", "link R1.a -> R2.a", api.ErrPriority, "R1 rule 5"},
		{"", "", "box R1", api.ErrDouble, "R1"},
	} {
		checkOffence(t, x.inR1+x.inR2+x.behind, exampleN(t, x.inR1, x.inR2, x.behind), x.errno, x.told)
	}
	checkOffence(t, "the empty configuration", api.Config{}, api.ErrLayout, "")
}

func TestExamplesOfNumbers(t *testing.T) {
	c := exampleN(t, "", "", "")
	ports, errno := model.Ports(c)
	want := []api.Port{{Name: "R1.a", Box: 0, In: true, To: -1}, {Name: "R1.b", Box: 0, To: 3}, {Name: "R1.c", Box: 0, To: -1}, {Name: "R2.a", Box: 1, In: true, To: -1}, {Name: "R2.b", Box: 1, To: 0}}
	if errno != api.OK || !equal(ports, want) {
		t.Errorf("P7.3: Ports: %v, %d", ports, errno)
	}
	if ports, errno := model.Ports(exampleN(t, "", "", "box R1")); errno != api.ErrDouble || ports != nil {
		t.Errorf("P7.3: Ports with a second box R1: %v, %d", ports, errno)
	}
	for name, number := range map[string]int{"R2.a": 3, "R2.c": -1, "a": -1} {
		if n := model.Find(c, name); n != number {
			t.Errorf("P7.4: Find %q: %d", name, n)
		}
	}
	edges, errno := model.Edges(c)
	if errno != api.OK || !equal(edges, []api.Edge{{From: 0, To: 1, Cost: 1, Out: 1}, {From: 1, To: 0, Cost: 7, Out: 4}}) {
		t.Errorf("P7.5: Edges: %v, %d", edges, errno)
	}
	zone, errno := model.Zone(c, "red")
	if errno != api.OK || !equal(zone, api.Zone{Ports: []int{3, 0}, Space: "0000000x"}) {
		t.Errorf("P7.6: Zone red: %v, %d", zone, errno)
	}
	if zone, errno := model.Zone(c, "blue"); errno != api.ErrUnknown || !equal(zone, api.Zone{}) {
		t.Errorf("P7.6: Zone blue: %v, %d", zone, errno)
	}
}
