package gate_test

// P18.13: a nil or zero Gate.

import (
	"fmt"
	"strings"
	"testing"

	"reach/api"
	"reach/gate"
	"reach/run"
)

func TestNothing(t *testing.T) {
	var none *gate.Gate
	var zero gate.Gate
	nothing := state(api.ErrNothing)
	for _, g := range []*gate.Gate{none, &zero, {}} {
		for _, line := range []string{"", "?", "no cover hops 1", "box A", smallText, strings.Repeat("#", api.MaxText+1)} {
			what := fmt.Sprintf(" of %.20q", line)
			check(t, "P18.13: Demand"+what, outcome(t, g.Demand(line)), nothing)
			check(t, "P18.13: Stage"+what, outcome(t, g.Stage(line)), nothing)
			check(t, "P18.13: Ask"+what, resulted(g.Ask(line)), resulted(run.Run("", line)))
		}
		for _, version := range []int{-1, 0, 1, 2, 64, 1 << 62} {
			check(t, "P18.13: Back", outcome(t, g.Back(version)), nothing)
		}
		check(t, "P18.13: Commit", outcome(t, g.Commit()), nothing)
		check(t, "P18.13: Undo", g.Undo(), 0)
		check(t, "P18.13: Version", g.Version(), 0)
		check(t, "P18.13: Config", g.Config(), "")
	}
}
