package keeper_test

// P20.2: which refusal comes first, and what there is room for.

import (
	"fmt"
	"strings"
	"testing"

	"reach/api"
	"reach/keeper"
)

// filled: a line with a comment behind it that makes it so many bytes long.
func filled(line string, size int) string {
	return line + " #" + strings.Repeat("x", size-len(line)-2)
}

const (
	holds  = "no loop A.a where any hops 3"
	breaks = "some loop A.a where any hops 3"
)

// unchanged: what a keeper refuses leaves it as it is, with so many changes staged.
func unchanged(t *testing.T, k *keeper.Keeper, what string, call func() error, want string) {
	t.Helper()
	was := stands(k)
	check(t, what, outcome(t, call()), want)
	check(t, "P18.2: "+what, stands(k), was)
}

func TestDemandsThatAreTooLong(t *testing.T) {
	const readLong = "parse 184 2 0 -1"
	for _, e := range []struct{ line, want string }{
		{filled(holds, api.MaxText), "ok"},
		{filled(holds, api.MaxText+1), isFull},
		{filled(breaks, api.MaxText+1), isFull},
		{filled("bogus", api.MaxText), readLong},
		{filled("bogus", api.MaxText+1), isFull},
		{strings.Repeat("$", api.MaxText), "parse 30 2 0 -1"},
		{strings.Repeat("$", api.MaxText+1), isFull},
		{strings.Repeat("\xff", 2*api.MaxDisk), isFull},
	} {
		k := opened(t, nil, smallText)
		what := fmt.Sprintf("P20.2: Demand of %d bytes %.20q", len(e.line), e.line)
		if e.want == "ok" {
			must(t, k.Demand(e.line))
			check(t, what, k.Disk(), onDisk(t, record(api.RecordOpen, smallText), record(api.RecordDemand, e.line)))
			continue
		}
		unchanged(t, k, what, func() error { return k.Demand(e.line) }, e.want)
	}
}

// The record of a commit has the lines and, ahead of each, the number of its bytes.
func TestCommitsThatAreTooLong(t *testing.T) {
	const head = len("16378:")
	for _, e := range []struct {
		lines []string
		want  string
	}{
		{[]string{filled("box B", api.MaxText-head)}, "ok"},
		{[]string{filled("box B", api.MaxText-head+1)}, isFull},
		{[]string{filled("box B", api.MaxText)}, isFull},
		{[]string{filled("box B", api.MaxText-head-7), "box C"}, "ok"},
		{[]string{filled("box B", api.MaxText-head-6), "box C"}, isFull},
		{[]string{"box C", filled("box B", api.MaxText-head-6)}, isFull},
		{[]string{filled("no at A out d", api.MaxText-head)}, "ill 73 1 0 -1"},
		{[]string{filled("no at A out d", api.MaxText-head+1)}, isFull},
		{[]string{filled("at A rule 9 match any to a", api.MaxText)}, isFull},
	} {
		k := opened(t, nil, smallText)
		packed := ""
		for _, line := range e.lines {
			must(t, k.Stage(line))
			packed += fmt.Sprint(len(line), ":", line)
		}
		what := fmt.Sprintf("P20.2: Commit of %d bytes %.20q", len(packed), packed)
		if e.want == "ok" {
			must(t, k.Commit())
			check(t, what, k.Disk(), onDisk(t, record(api.RecordOpen, smallText), record(api.RecordCommit, packed)))
			check(t, what+": Undo", k.Undo(), 0)
			continue
		}
		for range 2 {
			unchanged(t, k, what, k.Commit, e.want)
		}
		check(t, "P18.2: what is staged", k.Undo(), len(e.lines))
		check(t, "P20.2: nothing is staged any more", outcome(t, k.Commit()), isNothing)
		must(t, k.Stage("box C"))
		must(t, k.Commit())
	}
}

// nearlyFull: a keeper with so many bytes left in its ledger; with seven versions, of which the last one says what the first one does, and with three demands.
func nearlyFull(t *testing.T, left int) *keeper.Keeper {
	t.Helper()
	k := opened(t, nil, smallText)
	for n := range 6 {
		must(t, k.Stage(filled([]string{"box Z", "no box Z"}[n%2], api.MaxText-len("16378:"))))
		must(t, k.Commit())
	}
	for _, size := range []int{10000, 10000, api.MaxDisk - left - len(k.Disk()) - 20000} {
		must(t, k.Demand(filled(holds, size-20)))
	}
	check(t, "the bytes that are left", api.MaxDisk-len(k.Disk()), left)
	return k
}

func TestTheLedgerIsFull(t *testing.T) {
	demand := func(line string) func(*keeper.Keeper) error {
		return func(k *keeper.Keeper) error { return k.Demand(line) }
	}
	commit := func(lines ...string) func(*keeper.Keeper) error {
		return func(k *keeper.Keeper) error {
			for _, line := range lines {
				must(t, k.Stage(line))
			}
			return k.Commit()
		}
	}
	back := func(version int) func(*keeper.Keeper) error {
		return func(k *keeper.Keeper) error { return k.Back(version) }
	}
	for _, e := range []struct {
		what string
		call func(*keeper.Keeper) error
		size int    // of its record
		want string // where there is room
		less string // where there is none
	}{
		{"Commit", commit("box B"), 27, "ok", isFull},
		{"Commit of two lines", commit("box B", "no box B"), 37, "ok", isFull},
		{"Commit of what is ill-formed", commit("no at A out d"), 36, "ill 73 1 0 -1", isFull},
		{"Commit of nothing", commit(), 20, isNothing, isNothing},
		{"Back", back(1), 21, "ok", isFull},
		{"Back to what there is not", back(8), 21, noVersion, noVersion},
		{"Back to nothing", back(0), 21, noVersion, noVersion},
		{"Demand of what is none", demand("bogus"), 25, "parse 184 2 0 -1", isFull},
		{"Demand of nothing", demand(""), 20, "parse 184 2 0 -1", isFull},
		{"Demand", demand(holds), 20 + len(holds), "ok", isFull},
		{"Demand of what does not hold", demand("no loop A.z where any hops 3"), 48, "ill 171 2 0 3", isFull},
		{"a demand that cannot be read", demand("no $"), 24, "parse 30 2 0 -1", isFull},
	} {
		for _, left := range []int{0, 1, e.size - 1, e.size, e.size + 1} {
			k := nearlyFull(t, left)
			was := k.Disk()
			want := e.want
			if left < e.size {
				want = e.less
			}
			what := fmt.Sprintf("P20.2: %s with %d bytes left", e.what, left)
			check(t, what, outcome(t, e.call(k)), want)
			size := 0
			if want == "ok" {
				size = e.size
			}
			check(t, what+": Disk", len(k.Disk()), len(was)+size)
			check(t, what+": Disk", string(k.Disk()[:len(was)]), string(was))
			check(t, what+": opened again", stands(opened(t, k.Disk(), "")), stands(k))
		}
	}
}

// A ledger that is full to its last byte goes on answering, and is opened again.
func TestAFullLedger(t *testing.T) {
	k := nearlyFull(t, 0)
	must(t, k.Stage("box B"))
	must(t, k.Stage("box C"))
	unchanged(t, k, "P20.2: Commit", k.Commit, isFull)
	unchanged(t, k, "P20.2: Back", func() error { return k.Back(1) }, isFull)
	check(t, "P20.3: Undo", k.Undo(), 2)
	unchanged(t, k, "P20.2: Commit of nothing", k.Commit, isNothing)
	check(t, "P20.3: Ask", k.Ask("cover hops 1").Kind, api.ResultReplies)
	x := opened(t, k.Disk(), "")
	check(t, "P20.1: a full ledger", stands(x), stands(k))
	unchanged(t, x, "P20.7: Back", func() error { return x.Back(1) }, isFull)
	check(t, "P20.1: one byte more", refusedOpen(t, append(k.Disk(), 0), ""), "parse 2 0 0 -1")
}

// What the gate has no room for is refused, and nothing is written.
func TestTheGateIsFull(t *testing.T) {
	k := opened(t, nil, smallText)
	for n := range api.MaxDemands {
		must(t, k.Demand(holds))
		check(t, "P20.2: Records", k.Records(), n+2)
	}
	unchanged(t, k, "P20.2: Demand", func() error { return k.Demand(holds) }, isFull)
	for k.Version() < api.MaxVersions {
		must(t, k.Back(k.Version()))
	}
	unchanged(t, k, "P20.2: Back", func() error { return k.Back(64) }, isFull)
	unchanged(t, k, "P20.2: Back", func() error { return k.Back(65) }, noVersion)
	unchanged(t, k, "P20.2: Commit", k.Commit, isNothing)
	must(t, k.Stage("box B"))
	unchanged(t, k, "P20.2: Commit", k.Commit, isFull)
	for n := range api.MaxStaged - 1 {
		must(t, k.Stage(fmt.Sprint("at B in p", n)))
	}
	unchanged(t, k, "P20.3: Stage", func() error { return k.Stage("box C") }, isFull)
	check(t, "P20.3: Undo", k.Undo(), api.MaxStaged)
	check(t, "P20.4: Records", k.Records(), api.MaxDemands+api.MaxVersions)
	check(t, "P20.6", stands(opened(t, k.Disk(), "")), stands(k))
}
