package ledger_test

// P19.11, W6: nothing that is handed in is changed or kept; what is answered is new memory.

import (
	"bytes"
	"slices"
	"strings"
	"testing"
	"unsafe"

	"reach/api"
	"reach/ledger"
)

// handed: a text over memory that can be written into.
func handed(text string) (string, []byte) {
	memory := []byte(text)
	return unsafe.String(unsafe.SliceData(memory), len(memory)), memory
}

func overwrite(memory []byte) {
	memory = memory[:cap(memory)]
	for n := range memory {
		memory[n] = '?'
	}
}

// overwriteText writes over a text's bytes; one of a single byte may stand in memory that belongs to the runtime.
func overwriteText(text string) {
	if len(text) > 1 {
		overwrite(unsafe.Slice(unsafe.StringData(text), len(text)))
	}
}

func overwriteRecords(records []api.Record) {
	for _, r := range records {
		overwriteText(r.Text)
	}
	clear(records[:cap(records)])
}

func overwriteLines(lines []string) {
	for _, line := range lines {
		overwriteText(line)
	}
	lines = lines[:cap(lines)]
	for n := range lines {
		lines[n] = "spoilt"
	}
}

// with: the bytes, and others in the room behind their end.
func with(data, spare []byte) []byte {
	return slices.Concat(data, spare)[: len(data) : len(data)+len(spare)]
}

func TestNothingHandedInIsChanged(t *testing.T) {
	s := source(11)
	data := s.disk(3)
	next := rightly(1, 4, "behind the end").bytes()
	for _, data := range [][]byte{data, data[:len(data)-1], append(slices.Clone(data), "RL"...), nil} {
		disk := with(data, next)
		was := slices.Clone(disk[:cap(disk)])
		ledger.Sum(disk)
		checkWhole(t, "P19.11: whatever stands behind the end", disk)
		for at := range len(disk) + 2 {
			checkRead(t, "P19.11: whatever stands behind the end", disk, at)
		}
		if !bytes.Equal(disk[:cap(disk)], was) {
			t.Errorf("P19.11: the disk is changed")
		}
	}
	lines := []string{"a", "", "b", "spare", "room"}[:3]
	text, errno := ledger.Pack(lines)
	check(t, "P19.11", text, "1:a0:1:b")
	check(t, "P19.11", errno, api.OK)
	check(t, "P19.11", lines[:5], []string{"a", "", "b", "spare", "room"})
}

func TestRecordsAreCopies(t *testing.T) {
	s := source(12)
	disk := s.disk(5)
	want, _, _, _ := wholeAgain(disk)
	over := slices.Clone(disk)
	records, _, _ := ledger.Whole(over)
	var walked []api.Record
	for _, r := range ledger.Walk(over) {
		walked = append(walked, r)
	}
	first, _, _ := ledger.Read(over, 0)
	overwrite(over)
	check(t, "P19.11: Whole", records, want)
	check(t, "P19.11: Walk", walked, want)
	check(t, "P19.11: Read", first, want[0])
	for range 2 {
		records, _, errno := ledger.Whole(disk)
		check(t, "P19.11: Whole", records, want)
		check(t, "P19.11: Whole", errno, api.OK)
		overwriteRecords(records)
		first, _, _ = ledger.Read(disk, 0)
		check(t, "P19.11: Read", first, want[0])
		overwriteText(first.Text)
		walk := ledger.Walk(disk)
		for range 2 {
			seq := 0
			for _, r := range walk {
				check(t, "P19.11: Walk", r, want[seq])
				seq++
				overwriteText(r.Text)
			}
		}
	}
}

func TestEncodeAnswersNewMemory(t *testing.T) {
	for _, said := range []string{"", "7", "network", strings.Repeat("x", api.MaxText)} {
		text, memory := handed(said)
		r := api.Record{Seq: 3, Kind: api.RecordDemand, Text: text}
		want := rightly(3, 3, said).bytes()
		for range 2 {
			data := encoded(t, r)
			check(t, "P19.11: Encode", data, want)
			overwrite(data)
		}
		check(t, "P19.11: Encode", text, said)
		data := encoded(t, r)
		overwrite(memory)
		check(t, "P19.11: Encode", data, want)
	}
}

func TestLinesAreNewMemory(t *testing.T) {
	for _, lines := range [][]string{{"at A in x"}, {"at A in x", "", "no box B"}, slices.Repeat([]string{"one and the same"}, 9), make([]string, 5)} {
		packedText := packed(lines)
		handedLines := make([]string, len(lines))
		memories := make([][]byte, len(lines))
		for n, line := range lines {
			handedLines[n], memories[n] = handed(line)
		}
		again, _ := ledger.Pack(handedLines)
		overwriteText(again)
		text, _ := ledger.Pack(handedLines)
		for n := range lines {
			overwrite(memories[n])
		}
		check(t, "P19.11: Pack", text, packedText)
		text, memory := handed(packedText)
		answer, _ := ledger.Unpack(text)
		overwriteLines(answer)
		check(t, "P19.11: Unpack", text, packedText)
		answer, _ = ledger.Unpack(text)
		overwrite(memory)
		check(t, "P19.11: Unpack", answer, lines)
		for n := range answer {
			checkApart(t, answer, n)
		}
	}
}

// checkApart: no byte of a line is one of another line.
func checkApart(t *testing.T, lines []string, n int) {
	t.Helper()
	was := slices.Clone(lines)
	for m := range was {
		was[m] = strings.Clone(lines[m])
	}
	overwriteText(lines[n])
	for m := range lines {
		if m != n && lines[m] != was[m] {
			t.Errorf("P19.11: the lines %d and %d share memory", n, m)
		}
	}
}
