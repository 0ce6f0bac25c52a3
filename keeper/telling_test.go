package keeper_test

// P20.2 to P20.8, P0.13: long runs of calls, with stops of the machine among them, against a second telling of the chapter.

import (
	"bytes"
	"fmt"
	"strings"
	"testing"

	"reach/api"
	"reach/gate"
	"reach/keeper"
)

// taken is a call that was taken and has a record.
type taken struct {
	deed
	lines []string // of a commit: what was staged
	kind  int
	text  string // of the record
}

// telling is what a keeper is to be: a gate, what is staged in it, and all that was taken.
type telling struct {
	gate   *gate.Gate
	staged []string
	taken  []taken // the first one: that it was opened
	disk   []byte
}

func toldOpen(t *testing.T, config string) *telling {
	t.Helper()
	g, err := gate.Open(config)
	must(t, err)
	m := &telling{gate: g}
	m.take(t, taken{deed: deed{call: "Open", line: g.Config()}, kind: api.RecordOpen, text: g.Config()})
	return m
}

func (m *telling) take(t *testing.T, d taken) {
	t.Helper()
	m.taken = append(m.taken, d)
	var records []api.Record
	for _, d := range m.taken {
		records = append(records, record(d.kind, d.text))
	}
	m.disk = onDisk(t, records...)
}

// recordOf: the record that a deed has, if it is taken; and what is refused without one, as the gate refuses it.
func (m *telling) recordOf(d deed) (r taken, some bool) {
	switch {
	case d.call == "Demand":
		return taken{deed: d, kind: api.RecordDemand, text: d.line}, true
	case d.call == "Commit" && len(m.staged) > 0:
		text := ""
		for _, line := range m.staged {
			text += fmt.Sprintf("%d:%s", len(line), line)
		}
		return taken{deed: d, lines: m.staged, kind: api.RecordCommit, text: text}, true
	case d.call == "Back" && 1 <= d.version && d.version <= m.gate.Version():
		return taken{deed: d, kind: api.RecordBack, text: fmt.Sprint(d.version)}, true
	}
	return taken{}, false
}

// do: what a deed is to answer.
func (m *telling) do(t *testing.T, d deed) string {
	t.Helper()
	r, some := m.recordOf(d)
	if some && (len(r.text) > 16384 || len(m.disk)+20+len(r.text) > 131072) {
		return isFull
	}
	told := d.on(t, m.gate)
	switch {
	case d.call == "Stage" && told == "ok":
		m.staged = append(m.staged[:len(m.staged):len(m.staged)], d.line)
	case d.call == "Undo" || (d.call == "Commit" || d.call == "Back") && told == "ok":
		m.staged = nil
	}
	if some && told == "ok" {
		m.take(t, r)
	}
	return told
}

// until: what the keeper was to be when its ledger was so many records long, with nothing staged: made by the calls that were taken till then.
func (m *telling) until(t *testing.T, records int) *telling {
	t.Helper()
	again := toldOpen(t, m.taken[0].line)
	for _, d := range m.taken[1:records] {
		for _, line := range d.lines {
			check(t, "the telling itself", again.do(t, deed{call: "Stage", line: line}), "ok")
		}
		check(t, "the telling itself", again.do(t, d.deed), "ok")
	}
	return again
}

// whole: how many records end at this byte or before.
func (m *telling) whole(end int) int {
	count, size := 0, 0
	for _, d := range m.taken {
		if size += 20 + len(d.text); size <= end {
			count++
		}
	}
	return count
}

// trial is a keeper and what it is to be, with all that was done.
type trial struct {
	keeper *keeper.Keeper
	told   *telling
	log    []string
}

func newTrial(t *testing.T, config string) *trial {
	t.Helper()
	r := &trial{opened(t, nil, config), toldOpen(t, config), []string{config}}
	r.same(t, "P20.1")
	return r
}

// same: whether the keeper is what it is to be, as far as that is told.
func (r *trial) same(t *testing.T, promise string) {
	t.Helper()
	k, m := r.keeper, r.told
	if k.Version() != m.gate.Version() || k.Config() != m.gate.Config() || k.Records() != len(m.taken) || !bytes.Equal(k.Disk(), m.disk) {
		t.Fatalf("%s: behind\n%.9999s\n%.9999s", promise, strings.Join(r.log, "\n"), stands(k))
	}
}

// do does a deed, and holds what comes of it against what is told.
func (r *trial) do(t *testing.T, d deed) string {
	t.Helper()
	was := r.keeper.Disk()
	got := d.on(t, r.keeper)
	r.log = append(r.log, fmt.Sprintf("%s %.99q %d: %.99s", d.call, d.line, d.version, got))
	if want := r.told.do(t, d); got != want {
		t.Fatalf("P20.2, P20.3: behind\n%.9999s\n%s, want %s", strings.Join(r.log, "\n"), got, want)
	}
	r.same(t, "P20.2 to P20.4")
	if !bytes.HasPrefix(r.keeper.Disk(), was) {
		t.Fatalf("P20.8: behind\n%.9999s", strings.Join(r.log, "\n"))
	}
	return got
}

// stopped: the ledger's bytes as a stop of the machine, or a byte that is spoilt, may leave them; and how many whole records they have, at least one.
func (r *trial) stopped(s *source) ([]byte, int) {
	disk := r.keeper.Disk()
	first := 20 + len(r.told.taken[0].text)
	at := len(disk)
	switch s.below(3) {
	case 0:
		at = first + s.below(len(disk)-first+1)
	case 1:
		at = r.told.sizeOf(1 + s.below(len(r.told.taken)))
	}
	disk, count := disk[:at], r.told.whole(at)
	if s.below(2) == 0 {
		if n := first + s.below(len(disk)-first+1); n < len(disk) {
			disk[n] ^= byte(1 + s.below(255))
			count = min(count, r.told.whole(n))
		}
	}
	if s.below(2) == 0 {
		junk := []string{"R", "RL", string(r.told.disk[:first]), strings.Repeat("\x00", 99), strings.Repeat("RL\x02\x00", 30)}
		if len(disk)+first <= api.MaxDisk-100 && count == r.told.whole(len(disk)) && r.told.sizeOf(count) == len(disk) { // Else it may mend what is torn.
			disk = append(disk, junk[s.below(len(junk))]...)
		}
	}
	return disk, count
}

// sizeOf: the bytes of the first records.
func (m *telling) sizeOf(records int) int {
	size := 0
	for _, d := range m.taken[:records] {
		size += 20 + len(d.text)
	}
	return size
}

// reopen goes on with a keeper that was opened over what a stop left.
func (r *trial) reopen(t *testing.T, s *source) {
	t.Helper()
	disk, count := r.stopped(s)
	r.log = append(r.log, fmt.Sprintf("opened over %d bytes: %d records", len(disk), count))
	r.keeper = opened(t, disk, s.oneOf("", "bogus", smallText))
	r.told = r.told.until(t, count)
	r.same(t, "P20.6")
	if _, err := keeper.Open(r.keeper.Disk(), ""); err != nil {
		t.Fatalf("P20.6: %s: opened once more", outcome(t, err))
	}
	r.do(t, deed{call: "Commit"}) // Nothing is staged.
}

func TestRunsOfCalls(t *testing.T) {
	s := source(200)
	times := map[string]int{}
	for n := range 60 {
		r := newTrial(t, s.network())
		do := func(d deed) {
			word, _, _ := strings.Cut(r.do(t, d), ";")
			if strings.HasPrefix(word, "state") {
				word = "state " + strings.Fields(word)[1]
			}
			times[d.call+" "+strings.Join(strings.Fields(word + " - -")[:2], " ")]++
		}
		for range 60 {
			do(s.deed(r.told.gate.Config(), r.told.gate.Version(), n%2 == 0))
			if s.below(12) == 0 {
				r.reopen(t, &s)
			}
		}
		for version := range r.told.gate.Version() { // All that were in force are as they were, and so are the demands.
			do(deed{call: "Back", version: version + 1})
		}
	}
	for _, kind := range []string{"Stage ok -", "Stage state 63", "Stage state 64", "Stage parse 60", "Commit ok -", "Commit ill 73", "Commit broken 180", "Commit state 182", "Commit state 183", "Demand ok -", "Demand parse 184", "Demand broken 180", "Demand ill 171", "Demand state 183", "Back ok -", "Back broken 180", "Back state 181", "Undo 0 -", "Undo 1 -", "Undo 2 -"} {
		if times[kind] < 5 {
			t.Errorf("the trial shows less than it should: %s %d times", kind, times[kind])
		}
	}
}

// P20.7: the old keeper behind an Undo and the one that was opened again answer alike, and write the same.
func TestOldAndNewGoOnAlike(t *testing.T) {
	s := source(201)
	for range 40 {
		old := opened(t, nil, s.network())
		for range 30 {
			s.deed(old.Config(), old.Version(), false).on(t, old)
		}
		again := opened(t, old.Disk(), "")
		old.Undo()
		for range 40 {
			d := s.deed(old.Config(), old.Version(), false)
			if got, want := d.on(t, again), d.on(t, old); got != want {
				t.Fatalf("P20.7: %+v: %s, want %s", d, got, want)
			}
			if got, want := stands(again), stands(old); got != want {
				t.Fatalf("P20.7: %+v: %s, want %s", d, got, want)
			}
		}
		check(t, "P20.7: Undo", again.Undo(), old.Undo())
	}
}
