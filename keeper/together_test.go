package keeper_test

// P18.14 of the gate that a keeper is: keepers share nothing; calls of one keeper at one time act as if they were made one behind the other, and so do their records.

import (
	"bytes"
	"fmt"
	"slices"
	"sync"
	"testing"

	"reach/api"
	"reach/keeper"
	"reach/ledger"
)

// Keepers over one and the same ledger, whose calls come by turns.
func TestKeepersShareNothing(t *testing.T) {
	s := source(202)
	for range 10 {
		config := s.network()
		trials := []*trial{newTrial(t, config), newTrial(t, config), newTrial(t, config)}
		disk := trials[0].keeper.Disk()
		for _, r := range trials {
			r.keeper = opened(t, disk, "")
		}
		for range 60 {
			r := trials[s.below(len(trials))]
			r.do(t, s.deed(r.told.gate.Config(), r.told.gate.Version(), false))
		}
	}
}

// together makes so many calls at one time, and tells how often each outcome came.
func together(t *testing.T, count int, call func(n int) error) map[string]int {
	t.Helper()
	errs := make([]error, count)
	begin := make(chan struct{})
	var work sync.WaitGroup
	for n := range errs {
		work.Go(func() {
			<-begin
			errs[n] = call(n)
		})
	}
	close(begin)
	work.Wait()
	times := map[string]int{}
	for _, err := range errs {
		times[outcome(t, err)]++
	}
	return times
}

func TestCallsAtOneTime(t *testing.T) {
	for range 5 {
		k := opened(t, nil, smallText)
		check(t, "Stage", together(t, 40, func(n int) error { return k.Stage(fmt.Sprint("at A in p", n)) }), map[string]int{"ok": 32, isFull: 8})
		check(t, "Commit", together(t, 20, func(int) error { return k.Commit() }), map[string]int{"ok": 1, isNothing: 19})
		check(t, "Records", k.Records(), 2)
		check(t, "Demand", together(t, 20, func(int) error { return k.Demand(holds) }), map[string]int{"ok": 8, isFull: 12})
		check(t, "Stage", outcome(t, k.Stage("box B")), "ok")
		counts := make([]int, 20)
		together(t, 20, func(n int) error {
			counts[n] = k.Undo()
			return nil
		})
		slices.Sort(counts)
		check(t, "Undo", counts[18:], []int{0, 1})
		check(t, "Back", together(t, 100, func(int) error { return k.Back(1) }), map[string]int{"ok": 62, isFull: 38})
		check(t, "Records", k.Records(), 72)
		check(t, "P20.6", stands(opened(t, k.Disk(), "")), stands(k))
	}
	var none keeper.Keeper
	check(t, "a zero keeper", together(t, 9, func(int) error { return none.Commit() }), map[string]int{isNothing: 9})
}

// Calls of all kinds at one time: the ledger tells just what has come about, and whoever reads it meanwhile reads whole records.
func TestLedgersOfCallsAtOneTime(t *testing.T) {
	s := source(203)
	for range 12 {
		k := opened(t, nil, s.network())
		config := k.Config()
		deeds := make([][]deed, 6)
		for n := range deeds {
			for range 12 {
				deeds[n] = append(deeds[n], s.deed(config, 4, false))
			}
		}
		var work sync.WaitGroup
		for n := range deeds {
			work.Go(func() {
				var was []byte
				for _, d := range deeds[n] {
					d.on(t, k)
					disk := k.Disk()
					if _, size, errno := ledger.Whole(disk); size != len(disk) || errno != api.OK || !bytes.HasPrefix(disk, was) {
						t.Errorf("P20.8: %d of %d bytes are records", size, len(disk))
					}
					was = disk
				}
			})
		}
		work.Wait()
		k.Undo()
		again := opened(t, k.Disk(), "")
		check(t, "P20.6: calls at one time", stands(again), stands(k))
		for version := range k.Version() {
			check(t, "P20.7: Back", outcome(t, again.Back(version+1)), outcome(t, k.Back(version+1)))
			check(t, "P20.7: Config", again.Config(), k.Config())
		}
	}
}
