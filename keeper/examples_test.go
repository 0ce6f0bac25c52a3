package keeper_test

// The examples of chapter 20, call by call, and what the tests have in common.

import (
	"errors"
	"fmt"
	"strings"
	"testing"

	"reach/api"
	"reach/keeper"
	"reach/ledger"
)

// smallText: the text T of chapter 18's examples.
const smallText = `header b:2
box A
  in a
  out c d
  rule 5 match b = 0 to c
  rule 4 match any to d
`

func check(t *testing.T, what string, got, want any) {
	t.Helper()
	if fmt.Sprint(got) != fmt.Sprint(want) {
		t.Errorf("%s: %.999v, want %.999v", what, fmt.Sprint(got), fmt.Sprint(want))
	}
}

// faultIn: the Fault that an error is, as P18.1 says it of each.
func faultIn(t *testing.T, err error) *api.Fault {
	t.Helper()
	f, ok := err.(*api.Fault)
	var found *api.Fault
	if !ok || f == nil || !errors.As(err, &found) || found != f || !errors.Is(err, f.Why) {
		t.Fatalf("P18.1: %T %v", err, err)
	}
	return f
}

// outcome: all that an error tells, in one line: why, code, text, line, demand; and the reply, if there is one.
func outcome(t *testing.T, err error) string {
	t.Helper()
	if err == nil {
		return "ok"
	}
	f := faultIn(t, err)
	word := ""
	for why, name := range map[error]string{api.WhyParse: "parse", api.WhyIll: "ill", api.WhyBudget: "budget", api.WhyBroken: "broken", api.WhyState: "state"} {
		if f.Why == why {
			word = name
		}
	}
	return fmt.Sprint(word, " ", int(f.Code), " ", f.Text, " ", f.Line, " ", f.Demand, replied(f.Reply))
}

// The refusals that are told most often.
const (
	isFull    = "state 183 0 0 -1"
	isNothing = "state 182 0 0 -1"
	noVersion = "state 181 0 0 -1"
)

// badRecord: the refusal of a ledger at the record of that number.
func badRecord(number int) string { return fmt.Sprint("ill 200 0 ", number, " -1") }

// replied: all that a reply holds, in lists that are empty and in nil ones alike; nothing of a zero one.
func replied(a api.Reply) string {
	text := fmt.Sprintf("; %d %v %q %q %q %q %q %q %v", a.Kind, a.Found, a.Space, a.Witness, a.Ports, a.Entries, a.Final, a.Lines, a.More)
	if text == `; 0 false "" "" [] [] "" [] false` {
		return ""
	}
	return text
}

// resulted: all that a Result holds.
func resulted(r api.Result) string {
	text := fmt.Sprint(r.Kind, " ", int(r.Code), " ", r.Text, " ", r.Line)
	for _, reply := range r.Replies {
		text += replied(reply)
	}
	return text
}

func opened(t *testing.T, disk []byte, config string) *keeper.Keeper {
	t.Helper()
	k, err := keeper.Open(disk, config)
	if err != nil || k == nil {
		t.Fatalf("P20.1: %s: Open(%.200q, %.200q)", outcome(t, err), disk, config)
	}
	return k
}

// refusedOpen: what Open says, which is to give no keeper beside an error.
func refusedOpen(t *testing.T, disk []byte, config string) string {
	t.Helper()
	k, err := keeper.Open(disk, config)
	if (k == nil) != (err != nil) {
		t.Errorf("P20.1: Open(%.200q, %.200q): %v beside %v", disk, config, k, err)
	}
	return outcome(t, err)
}

// must: a call that is to be taken.
func must(t *testing.T, err error) {
	t.Helper()
	check(t, "a call that is to be taken", outcome(t, err), "ok")
}

// record is a record whose Seq is its place.
func record(kind int, text string) api.Record { return api.Record{Kind: kind, Text: text} }

// onDisk: records one behind the other, with the Seqs 1, 2, 3 ..
func onDisk(t *testing.T, records ...api.Record) []byte {
	t.Helper()
	var disk []byte
	for n, r := range records {
		r.Seq = n + 1
		data, errno := ledger.Encode(r)
		if errno != api.OK {
			t.Fatalf("Encode: %d", errno)
		}
		disk = append(disk, data...)
	}
	return disk
}

// stands: the state of a keeper that can be seen without changing it.
func stands(k *keeper.Keeper) string {
	return fmt.Sprintf("version %d, %d records, %q, %q", k.Version(), k.Records(), k.Config(), k.Disk())
}

func TestExamples(t *testing.T) {
	k := opened(t, nil, smallText)
	is := func(what string, err error, want string, records, version int) {
		t.Helper()
		check(t, what, outcome(t, err), want)
		check(t, what+": Records", k.Records(), records)
		check(t, what+": Version", k.Version(), version)
	}
	is("Open", nil, "ok", 1, 1)
	check(t, "Disk", len(k.Disk()), len(smallText)+20)
	is("Demand", k.Demand("no reach A.a to A.c where b = 1 hops 2"), "ok", 2, 1)
	is("Stage", k.Stage("at A rule 9 match b = 1 to c"), "ok", 2, 1)
	broken := `broken 180 0 0 0; 1 true "01" "01" ["A.a" "A.c"] ["A rule 9"] "01" [] false`
	is("Commit of what breaks a demand", k.Commit(), broken, 2, 1)
	check(t, "Undo", k.Undo(), 1)
	is("Stage", k.Stage("at A rule 9 match b = 2 drop"), "ok", 2, 1)
	is("Commit", k.Commit(), "ok", 3, 2)
	is("Back", k.Back(1), "ok", 4, 3)
	disk := k.Disk()
	check(t, "the records", disk, onDisk(t,
		record(api.RecordOpen, smallText), record(api.RecordDemand, "no reach A.a to A.c where b = 1 hops 2"),
		record(api.RecordCommit, "28:at A rule 9 match b = 2 drop"), record(api.RecordBack, "1")))
	same := opened(t, disk, "")
	check(t, "Open of all", stands(same), stands(k))
	must(t, same.Stage("at A rule 9 match b = 1 to c"))
	check(t, "Demand number 0", outcome(t, same.Commit()), broken)
	less := opened(t, disk[:len(disk)-1], "")
	check(t, "Open without the last byte", fmt.Sprint(less.Version(), less.Records()), "2 3")
	check(t, "Open without the last byte", less.Config(), smallText+"  rule 9 match b = 2 drop\n")
	check(t, "Open of seven bytes", stands(opened(t, disk[:7], smallText)), stands(opened(t, nil, smallText)))
	check(t, "Open of seven bytes", refusedOpen(t, disk[:7], "box"), "parse 50 1 1 -1")
	check(t, "Open of a demand", refusedOpen(t, onDisk(t, record(api.RecordDemand, "no cover hops 1")), smallText), badRecord(1))
}

// The ledger tells the text that is in force, not the one that was handed in.
func TestTheFirstRecordIsThePrintedText(t *testing.T) {
	k := opened(t, nil, "# a comment\n"+strings.ReplaceAll(smallText, "  ", "\t")+"link A.c -> A.a cost 1")
	want := smallText + "link A.c -> A.a\n"
	check(t, "P20.1: Config", k.Config(), want)
	check(t, "P20.1: Disk", k.Disk(), onDisk(t, record(api.RecordOpen, want)))
}
