package ledger_test

// A second telling of the chapter, by the library's check sums and numbers; and mixed records, disks and lines.

import (
	"encoding/binary"
	"fmt"
	"hash/crc32"
	"slices"
	"strings"
	"testing"

	"reach/api"
	"reach/ledger"
)

type source uint64

func (s *source) below(n int) int {
	*s = *s*6364136223846793005 + 1442695040888963407
	return int(uint64(*s) >> 33 % uint64(n))
}

func (s *source) bytes(n int) []byte {
	data := make([]byte, n)
	for at := range data {
		data[at] = byte(s.below(256))
	}
	return data
}

// told: the check sum by the library.
func told(data []byte) uint32 { return crc32.Checksum(data, crc32.MakeTable(crc32.Castagnoli)) }

// laid is what stands in a record's bytes, whether it may be or not.
type laid struct {
	mark       uint16
	kind, zero byte
	seq, count uint32
	text       string
}

// rightly: a record as it is to be laid.
func rightly(kind, seq int, text string) laid {
	return laid{mark: 0x524C, kind: byte(kind), seq: uint32(seq), count: uint32(len(text)), text: text}
}

// head: the first 16 bytes, with their right sum.
func (l laid) head() []byte {
	data := binary.BigEndian.AppendUint16(nil, l.mark)
	data = append(data, l.kind, l.zero)
	data = binary.BigEndian.AppendUint32(data, l.seq)
	data = binary.BigEndian.AppendUint32(data, l.count)
	return binary.BigEndian.AppendUint32(data, told(data))
}

// bytes: all of it, with right sums.
func (l laid) bytes() []byte {
	data := append(l.head(), l.text...)
	return binary.BigEndian.AppendUint32(data, told(data))
}

// readAgain: what Read is to answer, condition by condition.
func readAgain(disk []byte, at int) (api.Record, int, api.Errno) {
	if at < 0 || at > len(disk) {
		return api.Record{}, 0, api.ErrArg
	}
	d := disk[at:]
	if len(d) < 16 {
		return api.Record{}, 0, api.ErrTorn
	}
	kind, seq, n := int(d[2]), int(binary.BigEndian.Uint32(d[4:])), int(binary.BigEndian.Uint32(d[8:]))
	for _, wrong := range []bool{
		string(d[:2]) != "RL", d[3] != 0, binary.BigEndian.Uint32(d[12:]) != told(d[:12]),
		kind < 1, kind > 4, seq < 1, seq > 2147483647, n > 16384,
	} {
		if wrong {
			return api.Record{}, 0, api.ErrSpoilt
		}
	}
	if len(d) < n+20 {
		return api.Record{}, 0, api.ErrTorn
	}
	if binary.BigEndian.Uint32(d[16+n:]) != told(d[:16+n]) {
		return api.Record{}, 0, api.ErrSpoilt
	}
	return api.Record{Seq: seq, Kind: kind, Text: string(d[16 : 16+n])}, at + n + 20, api.OK
}

// wholeAgain: what Whole is to answer, and the places at which its records begin.
func wholeAgain(disk []byte) (records []api.Record, places []int, end int, errno api.Errno) {
	for {
		if end == len(disk) {
			return records, places, end, api.OK
		}
		r, behind, errno := readAgain(disk, end)
		if errno == api.OK && r.Seq != len(records)+1 {
			errno = api.ErrSpoilt
		}
		if errno != api.OK {
			return records, places, end, errno
		}
		records, places, end = append(records, r), append(places, end), behind
	}
}

func checkRead(t *testing.T, what string, disk []byte, at int) api.Errno {
	t.Helper()
	r, behind, errno := ledger.Read(disk, at)
	wantRecord, wantBehind, want := readAgain(disk, at)
	if r != wantRecord || behind != wantBehind || errno != want {
		t.Fatalf("%s: Read(%.200x, %d) = %.99q, %d, %d, want %.99q, %d, %d", what, disk, at, fmt.Sprint(r), behind, errno, fmt.Sprint(wantRecord), wantBehind, want)
	}
	return errno
}

func checkWhole(t *testing.T, what string, disk []byte) []api.Record {
	t.Helper()
	records, end, errno := ledger.Whole(disk)
	wantRecords, wantPlaces, wantEnd, want := wholeAgain(disk)
	if !slices.Equal(records, wantRecords) || end != wantEnd || errno != want {
		t.Fatalf("%s: Whole(%.200x) = %d records, %d, %d, want %d, %d, %d", what, disk, len(records), end, errno, len(wantRecords), wantEnd, want)
	}
	var places []int
	var walked []api.Record
	for at, r := range ledger.Walk(disk) {
		places, walked = append(places, at), append(walked, r)
	}
	if !slices.Equal(places, wantPlaces) || !slices.Equal(walked, wantRecords) {
		t.Fatalf("%s: Walk(%.200x): %d records at %v, want %d at %v", what, disk, len(walked), places, len(wantRecords), wantPlaces)
	}
	return records
}

func (s *source) text() string {
	if s.below(30) == 0 {
		return string(s.bytes(api.MaxText - s.below(3)))
	}
	return string(s.bytes(s.below(1 << s.below(8))))
}

// disk: whole records one behind the other, from Seq 1 on.
func (s *source) disk(records int) []byte {
	var disk []byte
	for seq := range records {
		disk = append(disk, rightly(1+s.below(4), 1+seq, s.text()).bytes()...)
	}
	return disk
}

// harmed: the disk with something that is not as it should be, or just as it is.
func (s *source) harmed(disk []byte) []byte {
	disk = slices.Clone(disk)
	at := s.below(len(disk) + 1)
	switch s.below(7) {
	case 0:
		return disk[:at]
	case 1:
		return append(disk, s.bytes(s.below(40))...)
	case 2:
		return append(disk, rightly(s.below(6), s.below(12), s.text()).bytes()...)
	case 3:
		return slices.Insert(disk, at, s.bytes(1+s.below(3))...)
	case 4:
		return slices.Delete(disk, at, min(len(disk), at+1+s.below(20)))
	case 5:
		if at < len(disk) {
			disk[at] ^= byte(1 + s.below(255))
		}
	}
	return disk
}

func TestMixedDisks(t *testing.T) {
	s := source(19)
	seen := map[api.Errno]int{}
	for range 3000 {
		disk := s.harmed(s.disk(s.below(6)))
		checkWhole(t, "P19.4, P19.5", disk)
		_, _, errno := ledger.Whole(disk)
		seen[errno]++
		_, places, _, _ := wholeAgain(disk)
		for _, at := range append(places, -1, len(disk), len(disk)+1, s.below(len(disk)+1)) {
			checkRead(t, "P19.3", disk, at)
		}
	}
	if seen[api.OK] < 300 || seen[api.ErrTorn] < 300 || seen[api.ErrSpoilt] < 300 {
		t.Errorf("too few of a kind: %v", seen)
	}
}

// line: with much in it that looks like packed lines.
func (s *source) line() string {
	words := []string{"", "0:", "1:", ":", "at A in x", "\n", "\x00", "\xff", "é", "12", strings.Repeat("y", s.below(300))}
	line := ""
	for range s.below(5) {
		line += words[s.below(len(words))]
	}
	return line
}
