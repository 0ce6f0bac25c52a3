package gate_test

// P18.14: two gates share nothing; calls of one gate at one time act as if they were made one behind the other.

import (
	"fmt"
	"slices"
	"sync"
	"testing"

	"reach/api"
	"reach/gate"
)

// Gates of one and the same text, whose calls come by turns.
func TestGatesShareNothing(t *testing.T) {
	s := source(182)
	for range 10 {
		config := s.network()
		trials := []*trial{newTrial(t, config), newTrial(t, config), newTrial(t, config)}
		for range 90 {
			r := trials[s.below(len(trials))]
			r.do(t, s.deed(r.told.text(), len(r.told.versions)))
		}
	}
}

// together makes so many calls at one time, and tells how often each outcome came.
func together(t *testing.T, count int, call func(n int) error) map[string]int {
	t.Helper()
	errs := make([]error, count)
	begin := make(chan struct{})
	var work sync.WaitGroup
	for n := range errs {
		work.Go(func() {
			<-begin
			errs[n] = call(n)
		})
	}
	close(begin)
	work.Wait()
	times := map[string]int{}
	for _, err := range errs {
		times[outcome(t, err)]++
	}
	return times
}

func TestCountsOfCallsAtOneTime(t *testing.T) {
	full, nothing, there := state(api.ErrFull), state(api.ErrNothing), state(api.ErrThere)
	for range 5 {
		g := opened(t, smallText)
		check(t, "P18.14: Stage of one box", together(t, 20, func(int) error { return g.Stage("box B") }), map[string]int{"ok": 1, there: 19})
		check(t, "P18.14: Stage", together(t, 60, func(n int) error { return g.Stage(fmt.Sprint("at B in p", n)) }), map[string]int{"ok": 31, full: 29})
		check(t, "P18.14: Commit", together(t, 20, func(int) error { return g.Commit() }), map[string]int{"ok": 1, nothing: 19})
		check(t, "P18.14: Demand", together(t, 20, func(int) error { return g.Demand("no loop A.a where any hops 1") }), map[string]int{"ok": 8, full: 12})
		check(t, "P18.14: Version", g.Version(), 2)
		for n := range 12 {
			check(t, "P18.7", outcome(t, g.Stage(fmt.Sprint("box N", n))), "ok")
		}
		counts := make([]int, 20)
		together(t, 20, func(n int) error {
			counts[n] = g.Undo()
			return nil
		})
		slices.Sort(counts)
		check(t, "P18.14: Undo", counts[18:], []int{0, 12})
		check(t, "P18.14: Back", together(t, 100, func(int) error { return g.Back(1) }), map[string]int{"ok": 62, full: 38})
		check(t, "P18.14: Version", g.Version(), 64)
	}
}

// explains: whether these answers come of these deeds in some order that keeps that of each list; where they do, what is held then.
func (m telling) explains(deeds [][]deed, answers [][]string, last func(telling) bool) bool {
	done := true
	for n := range deeds {
		if len(deeds[n]) == 0 {
			continue
		}
		done = false
		next, want := m.after(deeds[n][0])
		if want != answers[n][0] {
			continue
		}
		left, rest := slices.Clone(deeds), slices.Clone(answers)
		left[n], rest[n] = left[n][1:], rest[n][1:]
		if next.explains(left, rest, last) {
			return true
		}
	}
	return done && last(m)
}

func TestCallsComeOneBehindTheOther(t *testing.T) {
	s := source(183)
	for range 40 {
		r := newTrial(t, s.network())
		for range 12 {
			r.do(t, s.deed(r.told.text(), len(r.told.versions)))
		}
		deeds := make([][]deed, 3)
		answers := make([][]string, 3)
		for n := range deeds {
			for range 3 {
				deeds[n] = append(deeds[n], s.deed(r.told.text(), len(r.told.versions)))
			}
		}
		begin := make(chan struct{})
		var work sync.WaitGroup
		for n := range deeds {
			work.Go(func() {
				<-begin
				for _, d := range deeds[n] {
					answers[n] = append(answers[n], d.on(t, r.gate))
				}
			})
		}
		close(begin)
		work.Wait()
		version, text, count := r.gate.Version(), r.gate.Config(), r.gate.Undo()
		if !r.told.explains(deeds, answers, func(m telling) bool {
			return len(m.versions) == version && m.text() == text && len(m.staged) == count
		}) {
			t.Fatalf("P18.14: behind\n%v\nno order of %v gives %q, version %d", r.log, deeds, answers, version)
		}
	}
}

// What is told of a gate while it changes is what was in force at some time.
func TestReadersSeeWholeVersions(t *testing.T) {
	g := opened(t, smallText)
	changed := smallText + "box B\n"
	var work sync.WaitGroup
	for range 6 {
		work.Go(func() {
			last := 0
			for range 40 {
				if text := g.Config(); text != smallText && text != changed {
					t.Errorf("P18.14: Config %q", text)
				}
				version := g.Version()
				if version < last {
					t.Errorf("P18.14: version %d behind %d", version, last)
				}
				last = version
				if r := g.Ask("cover hops 1"); r.Kind != api.ResultReplies {
					t.Errorf("P18.14: Ask %+v", r)
				}
			}
		})
	}
	work.Go(func() {
		for g.Version() < api.MaxVersions-1 {
			if err := stagedAlso(g, "box B"); err != nil {
				t.Errorf("P18.14: Commit %+v", err)
				return
			}
			if err := g.Back(1); err != nil {
				t.Errorf("P18.14: Back %+v", err)
				return
			}
		}
	})
	work.Wait()
	var none gate.Gate
	check(t, "P18.14: a zero gate", together(t, 9, func(int) error { return none.Commit() }), map[string]int{state(api.ErrNothing): 9})
}
