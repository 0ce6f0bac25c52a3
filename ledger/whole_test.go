package ledger_test

// P19.4 to P19.7: the records that stand whole.

import (
	"fmt"
	"iter"
	"slices"
	"strings"
	"testing"

	"reach/api"
	"reach/ledger"
)

func checkEnded(t *testing.T, what string, disk []byte, count, end int, errno api.Errno) {
	t.Helper()
	checkWhole(t, what, disk)
	records, gotEnd, got := ledger.Whole(disk)
	if len(records) != count || gotEnd != end || got != errno {
		t.Errorf("%s: %d records, %d, %d, want %d, %d, %d", what, len(records), gotEnd, got, count, end, errno)
	}
}

func TestWhole(t *testing.T) {
	one, two, three := rightly(1, 1, "network").bytes(), rightly(3, 2, "").bytes(), rightly(4, 3, "1").bytes()
	all := slices.Concat(one, two, three)
	checkEnded(t, "P19.4: none", nil, 0, 0, api.OK)
	checkEnded(t, "P19.4: all", all, 3, len(all), api.OK)
	checkEnded(t, "P19.4: the second is missing", slices.Concat(one, three), 1, len(one), api.ErrSpoilt)
	checkEnded(t, "P19.4: the first is missing", slices.Concat(two, three), 0, 0, api.ErrSpoilt)
	checkEnded(t, "P19.4: one comes again", slices.Concat(one, two, two, three), 2, len(one)+len(two), api.ErrSpoilt)
	checkEnded(t, "P19.4: the wrong way round", slices.Concat(one, three, two), 1, len(one), api.ErrSpoilt)
	checkEnded(t, "P19.4: torn", slices.Concat(all, []byte("?")), 3, len(all), api.ErrTorn)
	checkEnded(t, "P19.4: another Seq, but torn", slices.Concat(one, three[:20]), 1, len(one), api.ErrTorn)
	checkEnded(t, "P19.4: spoilt", slices.Concat(all, make([]byte, 16)), 3, len(all), api.ErrSpoilt)
	checkEnded(t, "P19.4: nothing is looked for behind it", slices.Concat(one, []byte("?"), two), 1, len(one), api.ErrSpoilt)
	for name, l := range wrongs() {
		disk := slices.Concat(one, two, l.bytes())
		checkEnded(t, "P19.4: "+name, disk, 2, len(one)+len(two), api.ErrSpoilt)
	}
}

// No number of bytes is too many here: MaxDisk bounds a keeper's ledger.
func TestWholeOfMuch(t *testing.T) {
	var disk []byte
	for seq := 1; seq <= 300; seq++ {
		disk = append(disk, rightly(1+seq%4, seq, strings.Repeat("x", seq*7)).bytes()...)
	}
	disk = append(disk, rightly(2, 301, strings.Repeat("y", api.MaxText)).bytes()...)
	if len(disk) <= 2*api.MaxDisk {
		t.Fatal(len(disk))
	}
	checkEnded(t, "P19.4: much", disk, 301, len(disk), api.OK)
	checkEnded(t, "P19.4: much, torn", disk[:len(disk)-1], 300, len(disk)-api.MaxText-20, api.ErrTorn)
}

// ends: the places at which a disk's whole records end, ahead of them 0.
func ends(t *testing.T, disk []byte) []int {
	t.Helper()
	records, _, _ := ledger.Whole(disk)
	list := []int{0}
	for _, r := range records {
		list = append(list, list[len(list)-1]+20+len(r.Text))
	}
	return list
}

func TestBytesThatEndEarly(t *testing.T) {
	s := source(6)
	for range 60 {
		disk := s.disk(s.below(5))
		if len(disk) > 3000 {
			continue
		}
		if s.below(2) == 0 {
			disk = s.harmed(disk)
		}
		all, _, _ := ledger.Whole(disk)
		places := ends(t, disk)
		for j := range len(disk) + 1 {
			records, end, _ := ledger.Whole(disk[:j])
			count := 0
			for count < len(all) && places[count+1] <= j {
				count++
			}
			if !slices.Equal(records, all[:count]) || end != places[count] {
				t.Fatalf("P19.6: the first %d bytes of %x: %d records, %d, want %d, %d", j, disk, len(records), end, count, places[count])
			}
			checkWhole(t, "P19.6", disk[:j])
		}
	}
}

func checkSpoilt(t *testing.T, disk []byte, all []api.Record, places []int, place int, turn byte) {
	t.Helper()
	ahead := 0
	for places[ahead+1] <= place {
		ahead++
	}
	disk[place] ^= turn
	records, end, errno := ledger.Whole(disk)
	disk[place] ^= turn
	if !slices.Equal(records, all[:ahead]) || end != places[ahead] || errno != api.ErrSpoilt {
		t.Fatalf("P19.7: the byte %d of %.200x turned by %d: %d records, %d, %d, want %d, %d", place, disk, turn, len(records), end, errno, ahead, places[ahead])
	}
}

func TestAByteThatIsSpoilt(t *testing.T) {
	disk := slices.Concat(rightly(1, 1, "network").bytes(), rightly(3, 2, "").bytes(), rightly(4, 3, "12").bytes(), []byte("RL"))
	all, end, _ := ledger.Whole(disk)
	places := ends(t, disk)
	check(t, "P19.7", places, []int{0, 27, 47, 69})
	for place := range end {
		for turn := 1; turn < 256; turn++ {
			checkSpoilt(t, disk, all, places, place, byte(turn))
		}
	}
}

func TestAByteOfMuchThatIsSpoilt(t *testing.T) {
	s := source(7)
	disk := slices.Concat(rightly(1, 1, string(s.bytes(api.MaxText))).bytes(), rightly(2, 2, string(s.bytes(257))).bytes())
	all, end, _ := ledger.Whole(disk)
	places := ends(t, disk)
	for place := 0; place < end; place += 1 + s.below(60) {
		checkSpoilt(t, disk, all, places, place, byte(1+s.below(255)))
	}
}

// step is what Walk hands on.
type step struct {
	at int
	r  api.Record
}

// stepsOf: what a walk hands on, told to stop at its so-many-th step, and nothing more.
func stepsOf(t *testing.T, walk iter.Seq2[int, api.Record], stop int) []step {
	t.Helper()
	var steps []step
	walk(func(at int, r api.Record) bool {
		if len(steps) == stop {
			t.Fatalf("P19.5, W1: goes on behind the stop at %d", stop)
		}
		steps = append(steps, step{at, r})
		return len(steps) < stop
	})
	return steps
}

func TestWalk(t *testing.T) {
	s := source(5)
	disk := append(s.disk(6), "RLx"...)
	records, places, _, _ := wholeAgain(disk)
	var want []step
	for n, r := range records {
		want = append(want, step{places[n], r})
	}
	check(t, "P19.5", len(want), 6)
	walk := ledger.Walk(disk)
	for stop := 1; stop <= 7; stop++ {
		for range 2 {
			check(t, fmt.Sprint("P19.5: stopped at ", stop), stepsOf(t, walk, stop), want[:min(stop, 6)])
		}
	}
	for range 2 {
		outer := 0
		for at, r := range walk {
			check(t, "P19.5: outside", step{at, r}, want[outer])
			outer++
			check(t, "P19.5: inside", stepsOf(t, walk, outer), want[:outer])
			inner := 0
			for at, r := range walk {
				check(t, "P19.5: inside", step{at, r}, want[inner])
				inner++
			}
			check(t, "P19.5: inside", inner, 6)
		}
		check(t, "P19.5: outside", outer, 6)
	}
}

// Two that range at the same time, one some steps behind the other, do not disturb one another.
func TestWalkTwiceAtOnce(t *testing.T) {
	s := source(55)
	walk := ledger.Walk(s.disk(4))
	want := stepsOf(t, walk, 9)
	first, stopFirst := iter.Pull2(walk)
	defer stopFirst()
	second, stopSecond := iter.Pull2(walk)
	defer stopSecond()
	for n := range 6 {
		if at, r, ok := first(); ok != (n < 4) || ok && (step{at, r}) != want[n] {
			t.Errorf("P19.5: the first, step %d: %d, %v", n, at, ok)
		}
		if n < 2 {
			continue
		}
		if at, r, ok := second(); !ok || (step{at, r}) != want[n-2] {
			t.Errorf("P19.5: the second, step %d: %d, %v", n-2, at, ok)
		}
	}
}

func TestWalkOfNothing(t *testing.T) {
	for _, disk := range [][]byte{nil, {}, []byte("RL"), make([]byte, 50), rightly(1, 2, "").bytes(), rightly(1, 1, "x").bytes()[:20]} {
		for at, r := range ledger.Walk(disk) {
			t.Errorf("P19.5: Walk(%x): %v at %d", disk, r, at)
		}
	}
}

// Each record that is read takes memory for its text: so what was allocated tells how many were.
func TestWalkReadsWhenItIsAsked(t *testing.T) {
	var disk []byte
	for seq := 1; seq <= 400; seq++ {
		disk = append(disk, rightly(2, seq, strings.Repeat("x", 100)).bytes()...)
	}
	for _, stop := range []int{0, 1, 5, 100} {
		allocated := testing.AllocsPerRun(20, func() {
			walk := ledger.Walk(disk)
			if stop == 0 {
				return
			}
			left := stop
			for range walk {
				if left--; left == 0 {
					break
				}
			}
		})
		if allocated < float64(stop) || allocated > float64(stop+8) {
			t.Errorf("P19.5: stopped at %d, but %v allocations", stop, allocated)
		}
	}
}
