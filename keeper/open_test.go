package keeper_test

// P20.1: what Open takes and refuses, and which Fault it tells.

import (
	"bytes"
	"errors"
	"fmt"
	"slices"
	"strings"
	"testing"

	"reach/api"
	"reach/gate"
	"reach/keeper"
	"reach/ledger"
)

func TestBytesThatAreTooMany(t *testing.T) {
	good := onDisk(t, record(api.RecordOpen, smallText))
	wrong := onDisk(t, record(api.RecordBack, "1"))
	filled := func(data []byte, size int) []byte { return append(bytes.Clone(data), make([]byte, size-len(data))...) }
	const long = "parse 2 0 0 -1"
	for _, e := range []struct {
		disk         []byte
		config, want string
	}{
		{filled(nil, api.MaxDisk), smallText, "ok"},
		{filled(nil, api.MaxDisk+1), smallText, long},
		{filled(nil, api.MaxDisk+1), "bogus", long},
		{filled(nil, api.MaxDisk+1), strings.Repeat("#", api.MaxText+1), long},
		{filled(good, api.MaxDisk), "", "ok"},
		{filled(good, api.MaxDisk+1), "", long},
		{filled(good, 4*api.MaxDisk), smallText, long},
		{filled(wrong, api.MaxDisk), "", badRecord(1)},
		{filled(wrong, api.MaxDisk+1), "", long},
	} {
		check(t, fmt.Sprintf("P20.1: %d bytes", len(e.disk)), refusedOpen(t, e.disk, e.config), e.want)
	}
}

// withoutRecords: bytes whose first record is none.
func withoutRecords(t *testing.T) [][]byte {
	t.Helper()
	good := onDisk(t, record(api.RecordOpen, smallText), record(api.RecordDemand, "no loop A.a where any hops 3"))
	first := len(smallText) + 20
	second, _ := ledger.Encode(api.Record{Seq: 2, Kind: api.RecordOpen, Text: smallText})
	list := [][]byte{nil, {}, second, []byte("RL"), []byte(smallText), slices.Concat([]byte{0}, good), bytes.Repeat([]byte("RL"), 99)}
	for at := range first {
		spoilt := bytes.Clone(good)
		spoilt[at] ^= 1
		list = append(list, good[:at], spoilt)
	}
	return list
}

// Where no record is whole the keeper begins with the configuration, or is refused as the gate refuses it.
func TestNoRecord(t *testing.T) {
	configs := []string{
		smallText, "#\n" + smallText, "", "bogus", "header b:2\n\nbox A\nin in", "box", "$", strings.Repeat("#", api.MaxText+1), smallText + "link A.c -> A.b",
		"header e:32 f:32\nbox A\nin a\nrule 3 match e != 1 & f != 1 drop",
	}
	for n, disk := range withoutRecords(t) {
		for _, config := range configs {
			g, err := gate.Open(config)
			check(t, fmt.Sprintf("P20.1: the bytes %d, %.30q", n, config), refusedOpen(t, disk, config), outcome(t, err))
			if err != nil {
				continue
			}
			k := opened(t, disk, config)
			check(t, "P20.1: Disk", k.Disk(), onDisk(t, record(api.RecordOpen, g.Config())))
			check(t, "P20.1: Config", k.Config(), g.Config())
			check(t, "P20.1: Version, Records", fmt.Sprint(k.Version(), k.Records()), "1 1")
			check(t, "P20.1: nothing staged", k.Undo(), 0)
		}
	}
}

// With a record the configuration is not looked at.
func TestTheConfigurationIsNotLookedAt(t *testing.T) {
	disk := onDisk(t, record(api.RecordOpen, smallText))
	for _, config := range []string{"", "bogus", "$", smallText + "box B\n", strings.Repeat("#", api.MaxText+1)} {
		check(t, "P20.1: Config", opened(t, disk, config).Config(), smallText)
		check(t, "P20.1: Disk", opened(t, disk, config).Disk(), disk)
		check(t, "P20.1: a wrong record", refusedOpen(t, onDisk(t, record(api.RecordBack, "1")), config), badRecord(1))
	}
}

func TestFirstRecords(t *testing.T) {
	for _, e := range []struct {
		what string
		r    api.Record
		want string
	}{
		{"a text", record(api.RecordOpen, smallText), "ok"},
		{"another one", record(api.RecordOpen, "header b:2\n"), "ok"},
		{"a commit", record(api.RecordCommit, "5:box C"), badRecord(1)},
		{"a demand", record(api.RecordDemand, "no cover hops 1"), badRecord(1)},
		{"a version", record(api.RecordBack, "1"), badRecord(1)},
		{"a text as a commit", record(api.RecordCommit, smallText), badRecord(1)},
		{"nothing", record(api.RecordOpen, ""), badRecord(1)},
		{"what cannot be read", record(api.RecordOpen, "bogus"), badRecord(1)},
		{"what is ill-formed", record(api.RecordOpen, smallText+"link A.c -> A.b\n"), badRecord(1)},
		{"what takes too many cubes", record(api.RecordOpen, "header e:32 f:32\nbox A\n  in a\n  rule 3 match e != 1 & f != 1 drop\n"), badRecord(1)},
		{"a comment ahead", record(api.RecordOpen, "# T\n"+smallText), badRecord(1)},
		{"a newline behind", record(api.RecordOpen, smallText+"\n"), badRecord(1)},
		{"no newline behind", record(api.RecordOpen, strings.TrimSuffix(smallText, "\n")), badRecord(1)},
		{"other blanks", record(api.RecordOpen, strings.ReplaceAll(smallText, "  ", "\t")), badRecord(1)},
		{"another number", record(api.RecordOpen, strings.ReplaceAll(smallText, "rule 5", "rule 0x5")), badRecord(1)},
	} {
		check(t, "P20.1: the first record is "+e.what, refusedOpen(t, onDisk(t, e.r), smallText), e.want)
	}
}

// full33: one change more than may be staged, each of them one that is taken alone.
func full33() string {
	lines := []string{"box C"}
	for n := range api.MaxStaged {
		lines = append(lines, fmt.Sprint("at C in p", n))
	}
	text, _ := ledger.Pack(lines)
	return text
}

func TestFurtherRecords(t *testing.T) {
	// The network has box C only in version 2, to which each of these comes behind a demand about box A.
	ahead := []api.Record{
		record(api.RecordOpen, smallText), record(api.RecordDemand, "no reach A.a to A.c where b = 1 hops 2"), record(api.RecordCommit, "5:box C"), record(api.RecordBack, "1"),
	}
	bad := badRecord(len(ahead) + 1)
	for _, e := range []struct {
		r    api.Record
		want string
	}{
		{record(api.RecordOpen, smallText), bad},
		{record(api.RecordOpen, "header b:2\n"), bad},
		{record(api.RecordOpen, ""), bad},
		{record(api.RecordCommit, "5:box C"), "ok"},
		{record(api.RecordCommit, "5:box C8:no box C"), "ok"},
		{record(api.RecordCommit, "18: box C # \xff and é\n"), "ok"},
		{record(api.RecordCommit, "19: box C # \xff and é\n"), bad},
		{record(api.RecordCommit, ""), bad},
		{record(api.RecordCommit, "box C"), bad},
		{record(api.RecordCommit, "05:box C"), bad},
		{record(api.RecordCommit, "5:box C "), bad},
		{record(api.RecordCommit, "6:box C"), bad},
		{record(api.RecordCommit, "0:"), bad},
		{record(api.RecordCommit, "5:box A"), bad},
		{record(api.RecordCommit, "5:box C5:box C"), bad},
		{record(api.RecordCommit, "5:box C0:"), bad},
		{record(api.RecordCommit, "8:no box C"), bad},
		{record(api.RecordCommit, "11:box C\nbox D"), bad},
		{record(api.RecordCommit, "13:no at A out d"), bad},
		{record(api.RecordCommit, "14:no at A rule 4"), "ok"},
		{record(api.RecordCommit, "14:no at A rule 413:no at A out d"), "ok"},
		{record(api.RecordCommit, "13:no at A out d14:no at A rule 4"), "ok"},
		{record(api.RecordCommit, "28:at A rule 9 match b = 1 to c"), bad},
		{record(api.RecordCommit, "28:at A rule 9 match b = 2 to c"), "ok"},
		{record(api.RecordCommit, full33()), bad},
		{record(api.RecordDemand, "no loop A.a where any hops 3"), "ok"},
		{record(api.RecordDemand, "# \xff\n  some reach A.a to A.c where any hops 3 # é\n\n"), "ok"},
		{record(api.RecordDemand, ""), bad},
		{record(api.RecordDemand, "loop A.a where any hops 3"), bad},
		{record(api.RecordDemand, "some loop A.a where any hops 3"), bad},
		{record(api.RecordDemand, "no loop A.z where any hops 3"), bad},
		{record(api.RecordDemand, "no loop A.a where any hops 65"), bad},
		{record(api.RecordDemand, "28:no loop A.a where any hops 3"), bad},
		{record(api.RecordBack, "1"), "ok"},
		{record(api.RecordBack, "2"), "ok"},
		{record(api.RecordBack, "3"), "ok"},
		{record(api.RecordBack, "4"), bad},
		{record(api.RecordBack, "0"), bad},
		{record(api.RecordBack, "00"), bad},
		{record(api.RecordBack, "01"), bad},
		{record(api.RecordBack, "+1"), bad},
		{record(api.RecordBack, "-1"), bad},
		{record(api.RecordBack, "-0"), bad},
		{record(api.RecordBack, ""), bad},
		{record(api.RecordBack, " 1"), bad},
		{record(api.RecordBack, "1\n"), bad},
		{record(api.RecordBack, "1_"), bad},
		{record(api.RecordBack, "0x1"), bad},
		{record(api.RecordBack, "1.0"), bad},
		{record(api.RecordBack, "one"), bad},
		{record(api.RecordBack, "\uff11"), bad},
		{record(api.RecordBack, "18446744073709551617"), bad},
		{record(api.RecordBack, strings.Repeat("0", 4000)+"1"), bad},
		{record(api.RecordBack, strings.Repeat("1", api.MaxText)), bad},
	} {
		what := fmt.Sprintf("P20.1: %d %.40q", e.r.Kind, e.r.Text)
		disk := onDisk(t, slices.Concat(ahead, []api.Record{e.r})...)
		check(t, what, refusedOpen(t, disk, smallText), e.want)
		// The first that is refused is told, whatever stands behind it.
		more := onDisk(t, slices.Concat(ahead, []api.Record{e.r, record(api.RecordBack, "99"), record(api.RecordOpen, smallText)})...)
		want := e.want
		if want == "ok" {
			want = badRecord(len(ahead) + 2)
		}
		check(t, what+" and more", refusedOpen(t, more, smallText), want)
		// One that is not whole is not looked at, nor is what stands behind it.
		at := len(onDisk(t, ahead...))
		spoilt := bytes.Clone(more)
		spoilt[at] ^= 1
		check(t, what+", spoilt", refusedOpen(t, spoilt, smallText), "ok")
		check(t, what+", spoilt", opened(t, spoilt, "").Disk(), onDisk(t, ahead...))
	}
}

// What there may be no more of than the gate takes is refused in a ledger, too.
func TestLedgersOfTooMuch(t *testing.T) {
	first := record(api.RecordOpen, smallText)
	demand := record(api.RecordDemand, "no loop A.a where any hops 1")
	back := record(api.RecordBack, "1")
	versions := append([]api.Record{first}, slices.Repeat([]api.Record{back}, api.MaxVersions-1)...)
	demands := append([]api.Record{first}, slices.Repeat([]api.Record{demand}, api.MaxDemands)...)
	for _, e := range []struct {
		what    string
		records []api.Record
		want    string
	}{
		{"64 versions", versions, "ok"},
		{"65 versions", append(slices.Clone(versions), back), badRecord(65)},
		{"65 versions by a commit", append(slices.Clone(versions), record(api.RecordCommit, "5:box C")), badRecord(65)},
		{"8 demands", demands, "ok"},
		{"9 demands", append(slices.Clone(demands), demand), badRecord(10)},
		{"all there may be", slices.Concat(versions, demands[1:]), "ok"},
	} {
		disk := onDisk(t, e.records...)
		check(t, "P20.1: "+e.what, refusedOpen(t, disk, ""), e.want)
		if e.want == "ok" {
			check(t, "P20.1: "+e.what, opened(t, disk, "").Records(), len(e.records))
			check(t, "P20.1: "+e.what, opened(t, disk, "").Disk(), disk)
		}
	}
}

// P18.1: whatever Open refuses it tells as a Fault of new memory.
func TestFaultsOfOpenAreNew(t *testing.T) {
	for _, disk := range [][]byte{nil, make([]byte, api.MaxDisk+1), onDisk(t, record(api.RecordBack, "1"))} {
		_, first := keeper.Open(disk, "bogus")
		want := outcome(t, first)
		*faultIn(t, first) = api.Fault{Why: errors.New("spoilt"), Code: 99, Text: 9, Line: 9, Demand: 9}
		_, second := keeper.Open(disk, "bogus")
		check(t, "P18.1", outcome(t, second), want)
		if first == second {
			t.Errorf("P18.1: %s: the same fault", want)
		}
	}
}
