package ledger_test

// The examples of chapter 19.

import (
	"bytes"
	"fmt"
	"slices"
	"testing"

	"reach/api"
	"reach/ledger"
)

func check(t *testing.T, what string, got, want any) {
	t.Helper()
	if g, w := fmt.Sprintf("%#v", got), fmt.Sprintf("%#v", want); g != w {
		t.Errorf("%s: %.300s, want %.300s", what, g, w)
	}
}

func encoded(t *testing.T, r api.Record) []byte {
	t.Helper()
	data, errno := ledger.Encode(r)
	if errno != api.OK {
		t.Fatalf("P19.2: Encode(%d, %d, %d bytes): %d", r.Seq, r.Kind, len(r.Text), errno)
	}
	return data
}

func TestExamplesOfSum(t *testing.T) {
	check(t, "P19.1: none", ledger.Sum(nil), 0)
	check(t, "P19.1: a byte 0", ledger.Sum([]byte{0}), 1383945041)
	check(t, "P19.1: a", ledger.Sum([]byte("a")), 3251651376)
	check(t, "P19.1: nine digits", ledger.Sum([]byte("123456789")), 3808858755)
}

func TestExamplesOfRecords(t *testing.T) {
	back := api.Record{Seq: 1, Kind: api.RecordBack, Text: "7"}
	data := encoded(t, back)
	check(t, "P19.2", len(data), 21)
	check(t, "P19.2", fmt.Sprintf("%x %x", data[:12], data[16:17]), "524c04000000000100000001 37")
	for _, r := range []api.Record{{Seq: 0, Kind: 1}, {Seq: 1, Kind: 5}} {
		none, errno := ledger.Encode(r)
		check(t, "P19.2", len(none), 0)
		check(t, "P19.2", errno, api.ErrRecord)
	}
	for _, c := range []struct {
		disk   []byte
		at     int
		r      api.Record
		behind int
		errno  api.Errno
	}{
		{data, 0, back, 21, api.OK},
		{data[:20], 0, api.Record{}, 0, api.ErrTorn},
		{data[:15], 0, api.Record{}, 0, api.ErrTorn},
		{nil, 0, api.Record{}, 0, api.ErrTorn},
		{data, 1, api.Record{}, 0, api.ErrSpoilt},
		{data, 21, api.Record{}, 0, api.ErrTorn},
		{data, 22, api.Record{}, 0, api.ErrArg},
	} {
		r, behind, errno := ledger.Read(c.disk, c.at)
		check(t, "P19.3", r, c.r)
		check(t, "P19.3", behind, c.behind)
		check(t, "P19.3", errno, c.errno)
	}
	records, end, errno := ledger.Whole(slices.Concat(data, data))
	check(t, "P19.4: twice", records, []api.Record{back})
	check(t, "P19.4: twice", end, 21)
	check(t, "P19.4: twice", errno, api.ErrSpoilt)
	records, end, errno = ledger.Whole(nil)
	check(t, "P19.4: none", len(records), 0)
	check(t, "P19.4: none", end, 0)
	check(t, "P19.4: none", errno, api.OK)
}

func TestExamplesOfLines(t *testing.T) {
	lines := []string{"at A in x", ""}
	text, errno := ledger.Pack(lines)
	check(t, "P19.9", text, "9:at A in x0:")
	check(t, "P19.9", errno, api.OK)
	again, errno := ledger.Unpack("9:at A in x0:")
	check(t, "P19.10", again, lines)
	check(t, "P19.10", errno, api.OK)
	for _, text := range []string{"01:a", "2:a", "1:ab", "a"} {
		again, errno = ledger.Unpack(text)
		check(t, "P19.10: "+text, len(again), 0)
		check(t, "P19.10: "+text, errno, api.ErrPack)
	}
	again, errno = ledger.Unpack("")
	check(t, "P19.10: empty", len(again), 0)
	check(t, "P19.10: empty", errno, api.OK)
}

// The bytes of the example, all of them: the sums are the library's.
func TestExampleByTheLibrary(t *testing.T) {
	data := encoded(t, api.Record{Seq: 1, Kind: api.RecordBack, Text: "7"})
	if want := rightly(4, 1, "7").bytes(); !bytes.Equal(data, want) {
		t.Errorf("P19.2: %x, want %x", data, want)
	}
}
