package keeper_test

// P20.6, P0.13: wherever the bytes end, whichever byte is spoilt, and whatever stands behind them.

import (
	"bytes"
	"fmt"
	"strings"
	"testing"

	"reach/api"
	"reach/gate"
	"reach/keeper"
	"reach/ledger"
	"reach/run"
)

// aheadOfDemand: a comment, which belongs to the line of a demand.
const aheadOfDemand = "# \xff\n"

// moment is what a keeper was when its ledger was so many records long.
type moment struct {
	disk    []byte
	version int
	texts   []string // of all versions
	demands []string
}

// history: a keeper's moments, one for each record, with something staged at most of them.
func history(t *testing.T) []moment {
	t.Helper()
	k := opened(t, nil, smallText)
	m := moment{k.Disk(), 1, []string{smallText}, nil}
	list := []moment{m}
	next := func(err error) {
		t.Helper()
		must(t, err)
		m.disk, m.version = k.Disk(), k.Version()
		m.texts = m.texts[:len(m.texts):len(m.texts)]
		if m.version > len(m.texts) {
			m.texts = append(m.texts, k.Config())
		}
		list = append(list, m)
	}
	demand := func(line string) {
		t.Helper()
		m.demands = append(m.demands[:len(m.demands):len(m.demands)], line)
		next(k.Demand(line))
	}
	must(t, k.Stage("at A rule 9 match b = 2 drop"))
	demand("no reach A.a to A.c where b = 1 hops 2")
	must(t, k.Stage("box B"))
	next(k.Commit())
	must(t, k.Stage("no box B"))
	demand(aheadOfDemand + "some lost A.a where any hops 1\n")
	must(t, k.Stage("box C"))
	next(k.Back(2))
	must(t, k.Stage("no at A rule 9"))
	must(t, k.Stage("at A rule 2 match any drop"))
	must(t, k.Stage("at A rule 9 match b = 3 drop"))
	next(k.Commit())
	must(t, k.Stage("box D"))
	return list
}

// sameMoment: whether a keeper is just what it was then: also in what is only seen by changing it.
func sameMoment(t *testing.T, what string, k *keeper.Keeper, m moment) {
	t.Helper()
	if k.Version() != m.version || k.Config() != m.texts[m.version-1] || !bytes.Equal(k.Disk(), m.disk) || k.Undo() != 0 {
		t.Fatalf("%s: %s", what, stands(k))
	}
	records, size, errno := ledger.Whole(k.Disk())
	if len(records) != k.Records() || size != len(m.disk) || errno != api.OK {
		t.Fatalf("%s: %d records: %s", what, len(records), stands(k))
	}
	if _, err := gate.Open(k.Config()); err != nil {
		t.Fatalf("P0.13: %s: what is in force: %s", what, outcome(t, err))
	}
	for _, line := range m.demands {
		word, query, _ := strings.Cut(strings.TrimPrefix(line, aheadOfDemand), " ")
		r := run.Run(k.Config(), query)
		if r.Kind != api.ResultReplies || r.Replies[0].Found != (word == "some") {
			t.Fatalf("P0.13: %s: %q does not hold", what, line)
		}
	}
}

// goneOn: a keeper that was opened again has all versions of that moment and just its demands.
func goneOn(t *testing.T, what string, k *keeper.Keeper, m moment) {
	t.Helper()
	check(t, what+": how many demands", outcome(t, k.Demand("no loop A.z where any hops 1")), fmt.Sprint("ill 171 2 0 ", len(m.demands)))
	check(t, what+": Back", outcome(t, k.Back(m.version+1)), noVersion)
	for version := range m.version {
		g := opened(t, nil, m.texts[version])
		want := "ok"
		for number, line := range m.demands {
			if err := g.Demand(line); err != nil && want == "ok" {
				f := faultIn(t, err)
				f.Demand = number
				want = outcome(t, err)
			}
		}
		check(t, what+": Back", outcome(t, k.Back(version+1)), want)
		if want == "ok" {
			check(t, what+": Config", k.Config(), m.texts[version])
		}
	}
}

// momentAt: the last moment whose ledger ends at this byte or before.
func momentAt(list []moment, end int) (m moment, number int) {
	for n := range list {
		if len(list[n].disk) <= end {
			m, number = list[n], n
		}
	}
	return m, number
}

func TestEveryEnd(t *testing.T) {
	list := history(t)
	disk := list[len(list)-1].disk
	gone := map[int]bool{}
	for end := len(list[0].disk); end <= len(disk); end++ {
		m, number := momentAt(list, end)
		what := fmt.Sprintf("P20.6: the first %d bytes", end)
		k := opened(t, disk[:end], "bogus")
		sameMoment(t, what, k, m)
		check(t, what, k.Records(), number+1)
		if !gone[number] {
			gone[number] = true
			goneOn(t, what, k, m)
		}
	}
	check(t, "the moments", len(gone), len(list))
}

func TestEverySpoiltByte(t *testing.T) {
	list := history(t)
	disk := list[len(list)-1].disk
	for at := range disk {
		for _, turn := range []byte{1, 16, 128, 255} {
			spoilt := bytes.Clone(disk)
			spoilt[at] ^= turn
			what := fmt.Sprintf("P20.6, P0.13: the byte %d spoilt by %d", at, turn)
			if at < len(list[0].disk) { // No record is whole: it begins anew.
				check(t, what, refusedOpen(t, spoilt, "bogus"), "parse 60 1 1 -1")
				continue
			}
			m, _ := momentAt(list, at)
			sameMoment(t, what, opened(t, spoilt, ""), m)
		}
	}
}

// Whatever stands behind the records and is no further one.
func TestBytesBehind(t *testing.T) {
	list := history(t)
	for number, m := range list {
		seq := func(n, kind int, text string) []byte {
			data, errno := ledger.Encode(api.Record{Seq: n, Kind: kind, Text: text})
			check(t, "Encode", errno, api.OK)
			return data
		}
		next := seq(number+2, api.RecordBack, "1")
		for n, behind := range [][]byte{
			nil, {0}, []byte("R"), []byte("RL"), []byte("RLRLRL"), bytes.Repeat([]byte{0xff}, 300), m.disk,
			seq(number+1, api.RecordBack, "1"), seq(number+3, api.RecordBack, "1"), seq(1, api.RecordOpen, smallText),
			next[:len(next)-1], append([]byte{0}, next...), append(bytes.Clone(next[:len(next)-1]), next[len(next)-1]^1),
			append(seq(number+1, api.RecordBack, "1"), next...), make([]byte, api.MaxDisk-len(m.disk)),
		} {
			what := fmt.Sprintf("P20.6: %d records and the bytes %d", number+1, n)
			k := opened(t, append(bytes.Clone(m.disk), behind...), "")
			sameMoment(t, what, k, m)
			goneOn(t, what, k, m)
		}
	}
}

// A keeper may be opened, go on a little and be stopped, many times over.
func TestManyStops(t *testing.T) {
	k := opened(t, nil, smallText)
	for n := range 30 {
		must(t, k.Stage(fmt.Sprint("at A in p", n)))
		if n%3 == 2 {
			must(t, k.Back(1+n/2))
			must(t, k.Stage(fmt.Sprint("at A in q", n)))
		}
		must(t, k.Commit())
		must(t, k.Stage("box Z"))
		was, records, version, text := k.Disk(), k.Records(), k.Version(), k.Config()
		torn := append(bytes.Clone(was), was[:min(n, len(was))]...)
		k = opened(t, torn, "")
		check(t, "P20.6: many stops", fmt.Sprint(k.Records(), k.Version(), k.Config()), fmt.Sprint(records, version, text))
		check(t, "P20.6: many stops", k.Disk(), was)
		check(t, "P20.6: nothing is staged", outcome(t, k.Commit()), isNothing)
	}
}
