package ledger_test

// P19.2, P19.3 and P19.8: one record as bytes, and back.

import (
	"bytes"
	"fmt"
	"math"
	"slices"
	"strings"
	"testing"

	"reach/api"
	"reach/ledger"
)

func checkEncode(t *testing.T, r api.Record, want []byte, wantErrno api.Errno) {
	t.Helper()
	data, errno := ledger.Encode(r)
	if !bytes.Equal(data, want) || errno != wantErrno || (errno != api.OK) != (data == nil) {
		t.Errorf("P19.2: Encode(%d, %d, %d bytes) = %.60x, %d, want %.60x, %d", r.Seq, r.Kind, len(r.Text), data, errno, want, wantErrno)
	}
}

func TestEncode(t *testing.T) {
	texts := []string{"", "7", "\x00\xff\n", strings.Repeat("é", 150), strings.Repeat("\x00", api.MaxText-1), strings.Repeat("x", api.MaxText)}
	for kind := 1; kind <= 4; kind++ {
		for _, seq := range []int{1, 2, 255, 256, 65536, 16777216, 2147483646, 2147483647} {
			for _, text := range texts {
				checkEncode(t, api.Record{Seq: seq, Kind: kind, Text: text}, rightly(kind, seq, text).bytes(), api.OK)
			}
		}
	}
}

func TestEncodeRefuses(t *testing.T) {
	wrongKinds := []int{0, -1, 5, 256, 257, 1<<32 + 1, math.MaxInt, math.MinInt, math.MinInt + 1}
	wrongSeqs := []int{0, -1, 2147483648, 4294967295, 4294967296, 1<<32 + 1, math.MaxInt, math.MinInt, math.MinInt + 1}
	long := strings.Repeat("x", api.MaxText+1)
	for _, kind := range append(wrongKinds, 1) {
		for _, seq := range append(wrongSeqs, 1) {
			checkEncode(t, api.Record{Seq: seq, Kind: kind, Text: long}, nil, api.ErrLong)
			if kind != 1 || seq != 1 {
				checkEncode(t, api.Record{Seq: seq, Kind: kind}, nil, api.ErrRecord)
				checkEncode(t, api.Record{Seq: seq, Kind: kind, Text: long[1:]}, nil, api.ErrRecord)
			}
		}
	}
	checkEncode(t, api.Record{}, nil, api.ErrRecord)
}

func checkErrno(t *testing.T, what string, disk []byte, at int, want api.Errno) {
	t.Helper()
	if errno := checkRead(t, what, disk, at); errno != want {
		t.Errorf("%s: %d, want %d", what, errno, want)
	}
}

func TestReadAtPlaces(t *testing.T) {
	data := rightly(3, 9, "no cover hops 1").bytes()
	disk := slices.Concat([]byte("xyz"), data, data)
	for _, at := range []int{-1, math.MinInt, len(disk) + 1, math.MaxInt, 1 << 32} {
		checkErrno(t, "P19.3: outside", disk, at, api.ErrArg)
		checkErrno(t, "P19.3: outside of none", nil, at, api.ErrArg)
	}
	for at := range len(disk) + 1 {
		want := api.ErrSpoilt
		switch {
		case at == 3 || at == 3+len(data):
			want = api.OK
		case at > len(disk)-16:
			want = api.ErrTorn
		}
		checkErrno(t, fmt.Sprint("P19.3: at ", at), disk, at, want)
	}
	checkErrno(t, "P19.3: none", nil, 0, api.ErrTorn)
	checkErrno(t, "P19.3: none", []byte{}, 1, api.ErrArg)
}

// wrongs: what may not stand in a record, each with right sums.
func wrongs() map[string]laid {
	list := map[string]laid{}
	wrong := func(name string, change func(*laid)) {
		l := rightly(2, 5, "1:a")
		change(&l)
		list[name] = l
	}
	wrong("mark 1", func(l *laid) { l.mark = 0x534C })
	wrong("mark 2", func(l *laid) { l.mark = 0x524D })
	wrong("mark turned", func(l *laid) { l.mark = 0x4C52 })
	wrong("kind 0", func(l *laid) { l.kind = 0 })
	wrong("kind 5", func(l *laid) { l.kind = 5 })
	wrong("kind 255", func(l *laid) { l.kind = 255 })
	wrong("zero 1", func(l *laid) { l.zero = 1 })
	wrong("zero 128", func(l *laid) { l.zero = 128 })
	wrong("seq 0", func(l *laid) { l.seq = 0 })
	wrong("seq 2^31", func(l *laid) { l.seq = 1 << 31 })
	wrong("seq 2^32-1", func(l *laid) { l.seq = math.MaxUint32 })
	wrong("count 16385", func(l *laid) { l.count = 16385 })
	wrong("count 16385, all there", func(l *laid) { l.count, l.text = 16385, strings.Repeat("x", 16385) })
	wrong("count 2^31", func(l *laid) { l.count = 1 << 31 })
	wrong("count 2^32-1", func(l *laid) { l.count = math.MaxUint32 })
	return list
}

func TestReadRefusesWhatMayNotBe(t *testing.T) {
	for name, l := range wrongs() {
		data := l.bytes()
		checkErrno(t, "P19.3: "+name, data, 0, api.ErrSpoilt)
		checkErrno(t, "P19.3: only the head: "+name, data[:16], 0, api.ErrSpoilt)
		checkErrno(t, "P19.3: less than a head: "+name, data[:15], 0, api.ErrTorn)
	}
	for _, seq := range []int{1, 2147483647} {
		for _, text := range []string{"", strings.Repeat("x", 16384)} {
			checkErrno(t, "P19.3: what may just be", rightly(1, seq, text).bytes(), 0, api.OK)
			checkErrno(t, "P19.3: what may just be", rightly(4, seq, text).bytes(), 0, api.OK)
		}
	}
}

// The first sum is looked at ahead of the missing bytes, the second one behind them.
func TestReadOrder(t *testing.T) {
	whole := rightly(1, 1, "network").bytes()
	for n := range whole {
		checkErrno(t, "P19.3: bytes missing", whole[:n], 0, api.ErrTorn)
	}
	for place := range whole {
		data := slices.Clone(whole)
		data[place] ^= 0x10
		checkErrno(t, "P19.3: spoilt", data, 0, api.ErrSpoilt)
		want := api.ErrSpoilt
		if place >= 16 {
			want = api.ErrTorn
		}
		checkErrno(t, "P19.3: spoilt and torn", data[:len(data)-1], 0, want)
		checkErrno(t, "P19.3: a head that is torn", data[:15], 0, api.ErrTorn)
	}
	head := slices.Clone(whole)
	copy(head[12:], head[8:12])
	checkErrno(t, "P19.3: the first sum alone", laidAgain(head), 0, api.ErrSpoilt)
}

// laidAgain: bytes of a record with the second sum made right for them.
func laidAgain(data []byte) []byte {
	sum := told(data[:len(data)-4])
	return append(data[:len(data)-4:len(data)-4], byte(sum>>24), byte(sum>>16), byte(sum>>8), byte(sum))
}

// What stands behind a list's end is no part of it.
func TestReadEndsWithTheList(t *testing.T) {
	data := rightly(1, 1, "network").bytes()
	for n := range data {
		r, behind, errno := ledger.Read(data[:n:len(data)], 0)
		check(t, "P19.3", r, api.Record{})
		check(t, "P19.3", behind, 0)
		check(t, "P19.3", errno, api.ErrTorn)
	}
}

func TestThereAndBack(t *testing.T) {
	s := source(8)
	for range 2000 {
		r := api.Record{Seq: 1 + s.below(1<<s.below(32)), Kind: 1 + s.below(4), Text: s.text()}
		data := encoded(t, r)
		ahead := s.bytes(s.below(30))
		disk := slices.Concat(ahead, data, s.bytes(s.below(30)))
		again, behind, errno := ledger.Read(disk, len(ahead))
		if again != r || behind != len(ahead)+len(data) || errno != api.OK || len(data) != len(r.Text)+20 {
			t.Fatalf("P19.8: Read of Encode(%d, %d, %q): %v, %d, %d", r.Seq, r.Kind, r.Text, again, behind, errno)
		}
	}
}

func TestBackAndThere(t *testing.T) {
	s := source(88)
	read := 0
	for range 1000 {
		disk := s.harmed(s.disk(1 + s.below(4)))
		for at := 0; at <= min(len(disk), 1000); at++ {
			r, behind, errno := ledger.Read(disk, at)
			if errno != api.OK {
				continue
			}
			read++
			if data := encoded(t, r); !bytes.Equal(data, disk[at:behind]) {
				t.Fatalf("P19.8: Encode of Read: %.200x, want %.200x", data, disk[at:behind])
			}
		}
	}
	if read < 1000 {
		t.Errorf("only %d records were read", read)
	}
}
