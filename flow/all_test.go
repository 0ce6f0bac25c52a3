package flow_test

// P12.2: All as an iterator.

import (
	"iter"
	"testing"

	"reach/api"
	"reach/flow"
)

// checkFrom: a loop that stops behind so many flows has seen just these.
func checkFrom(t *testing.T, all iter.Seq2[int, api.Flow], want []string, stop int) {
	t.Helper()
	seen := 0
	for i, f := range all {
		if i != seen || flowText(f) != want[i] {
			t.Fatalf("P12.2: flow %d behind %d others: %s", i, seen, flowText(f))
		}
		seen++
		if seen == stop {
			break
		}
	}
	if seen != min(stop, len(want)) {
		t.Fatalf("P12.2: %d flows; want %d of %d", seen, stop, len(want))
	}
}

func TestAllAgainAndInsideItself(t *testing.T) {
	w := walked(t, exampleNet(), 0, "xx", 4, 10, false)
	want := exampleFlows()
	all := w.All()
	for stop := 1; stop <= len(want)+1; stop++ {
		checkFrom(t, all, want, stop)
		checkFrom(t, w.All(), want, stop)
	}
	seen := 0
	for i, f := range all {
		checkFrom(t, all, want, i+1)
		for j, g := range all {
			checkFrom(t, w.All(), want, j+1)
			if flowText(g) != want[j] {
				t.Fatalf("P12.2: inside of %d: flow %d: %s", i, j, flowText(g))
			}
		}
		if i != seen || flowText(f) != want[i] {
			t.Fatalf("P12.2: behind loops inside: flow %d: %s", i, flowText(f))
		}
		seen++
	}
	if seen != len(want) {
		t.Errorf("P12.2: behind loops inside: %d flows", seen)
	}
}

// W1: as soon as it is told to stop it hands on nothing more.
func TestAllStops(t *testing.T) {
	w := walked(t, fan(), 0, "x", 4, 341, false)
	for stop := range 20 {
		calls := 0
		w.All()(func(i int, _ api.Flow) bool {
			calls++
			return i < stop
		})
		if calls != stop+1 {
			t.Errorf("W1: told to stop at %d: %d calls", stop, calls)
		}
	}
}

// Two loops side by side, one of them slower.
func TestAllSideBySide(t *testing.T) {
	w := walked(t, exampleNet(), 0, "xx", 4, 10, false)
	want := exampleFlows()
	first, stopFirst := iter.Pull2(w.All())
	second, stopSecond := iter.Pull2(w.All())
	defer stopFirst()
	defer stopSecond()
	at := 0
	for i := range want {
		if j, f, ok := first(); !ok || j != i || flowText(f) != want[i] {
			t.Fatalf("P12.2: %d: %d, %s, %v", i, j, flowText(f), ok)
		}
		if i%2 == 0 {
			if j, f, ok := second(); !ok || j != at || flowText(f) != want[at] {
				t.Fatalf("P12.2: the slower one: %d: %d, %s, %v", at, j, flowText(f), ok)
			}
			at++
		}
	}
	if _, _, ok := first(); ok {
		t.Error("P12.2: a flow behind the last one")
	}
}

// What the loop's body panics with is none of the walk's business.
func TestAllLetsAPanicThrough(t *testing.T) {
	w := walked(t, exampleNet(), 0, "xx", 4, 10, false)
	func() {
		defer func() {
			if why := recover(); why != "a fault" {
				t.Errorf("the panic is gone: %v", why)
			}
		}()
		for range w.All() {
			panic("a fault")
		}
	}()
	checkFrom(t, w.All(), exampleFlows(), 99)
}

// Who asks for the first flow alone has no more made for it, however many there are; nor has First, where it is found soon.
func TestFirstFlowsAreSoonHadAlone(t *testing.T) {
	one, many := walked(t, fan(), 0, "x", 0, 1, false), walked(t, fan(), 0, "x", 4, 341, false)
	look := map[string]func(w *flow.Walk){
		"All":   func(w *flow.Walk) { w.All()(func(int, api.Flow) bool { return false }) },
		"First": func(w *flow.Walk) { w.First(0, "1") },
	}
	for what, do := range look {
		few := testing.AllocsPerRun(20, func() { do(one) })
		if all := testing.AllocsPerRun(20, func() { do(many) }); all > few {
			t.Errorf("P12.2: %s makes %v things for the first of many flows, %v for the one flow", what, all, few)
		}
	}
}

// A walk that is written over while it is gone through: the loop goes on with what it began with.
func TestAllOfAWalkThatIsWrittenOver(t *testing.T) {
	w := walked(t, exampleNet(), 0, "xx", 4, 10, false)
	all := w.All()
	seen := 0
	for i, f := range all {
		*w = flow.Walk{}
		if flowText(f) != exampleFlows()[i] {
			t.Fatalf("P12.2: flow %d: %s", i, flowText(f))
		}
		seen++
	}
	if seen != len(exampleFlows()) {
		t.Errorf("P12.2: %d flows", seen)
	}
}
