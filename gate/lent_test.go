package gate

// What a call is lent of the gate's lists has no room behind its end, so that nothing is appended into the gate's own.

import "testing"

func TestLentListsHaveNoSpareRoom(t *testing.T) {
	own := held{make([]string, 1, 9), make([]string, 2, 9), make([]demand, 3, 9)}
	h := own.lent()
	if cap(h.versions) != 1 || cap(h.staged) != 2 || cap(h.demands) != 3 {
		t.Errorf("room for %d, %d, %d", cap(h.versions), cap(h.staged), cap(h.demands))
	}
	if h = h.undone(); len(h.staged) != 0 || len(own.staged) != 2 {
		t.Errorf("%d staged, the gate has %d", len(h.staged), len(own.staged))
	}
}

// Nothing that a call begins is seen in the gate until it is taken over: whatever a call does with what it is lent.
func TestWhatIsBegunIsNotTakenOver(t *testing.T) {
	g, err := Open("header b:2\nbox A\n")
	if err != nil {
		t.Fatal(err)
	}
	for _, line := range []string{"box B", "box C", "box D"} { // Three of them in a list with room for more.
		if err := g.Stage(line); err != nil {
			t.Fatal(err)
		}
	}
	err = g.change(func(h held) held {
		h.staged = append(h.staged, "box E")
		h.versions = append(h.versions, "")
		h.demands = append(h.demands, demand{})
		panic(nothing())
	})
	if err == nil || len(g.held.staged) != 3 || len(g.held.versions) != 1 || len(g.held.demands) != 0 {
		t.Errorf("P18.2: %v, %+v", err, g.held)
	}
	if all := g.held.staged[:cap(g.held.staged)]; len(all) > 3 && all[3] != "" {
		t.Errorf("P18.2: %q stands behind what is staged", all[3])
	}
	if err := g.Commit(); err != nil || g.Config() != "header b:2\nbox A\nbox B\nbox C\nbox D\n" {
		t.Errorf("P18.2: %v, %q", err, g.Config())
	}
}
