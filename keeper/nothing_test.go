package keeper_test

// P20.5: a nil or zero Keeper.

import (
	"fmt"
	"strings"
	"testing"

	"reach/api"
	"reach/keeper"
	"reach/run"
)

func TestNothing(t *testing.T) {
	var none *keeper.Keeper
	var zero keeper.Keeper
	for _, k := range []*keeper.Keeper{none, &zero, {}} {
		for _, line := range []string{"", "?", "no cover hops 1", "box A", smallText, "loop A.a where any hops 1", strings.Repeat("#", api.MaxText+1), strings.Repeat("#", api.MaxDisk+1)} {
			what := fmt.Sprintf(" of %.20q", line)
			check(t, "P20.5: Demand"+what, outcome(t, k.Demand(line)), isNothing)
			check(t, "P20.5: Stage"+what, outcome(t, k.Stage(line)), isNothing)
			check(t, "P20.5: Ask"+what, resulted(k.Ask(line)), resulted(run.Run("", line)))
		}
		for _, version := range []int{-1 << 63, -1, 0, 1, 2, 64, 1<<63 - 1} {
			check(t, "P20.5: Back", outcome(t, k.Back(version)), isNothing)
		}
		check(t, "P20.5: Commit", outcome(t, k.Commit()), isNothing)
		check(t, "P20.5: Undo", k.Undo(), 0)
		check(t, "P20.5: Version", k.Version(), 0)
		check(t, "P20.5: Config", k.Config(), "")
		check(t, "P20.5: Disk", len(k.Disk()), 0)
		check(t, "P20.5: Records", k.Records(), 0)
		if first, second := k.Commit(), k.Commit(); first == second {
			t.Error("P18.1: the same fault")
		}
	}
}
