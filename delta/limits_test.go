package delta_test

// Where Compare gives up, and where it does not: at the last number that fits, and one beyond.

import (
	"fmt"
	"slices"
	"strings"
	"testing"

	"reach/api"
)

const most = api.MaxBudget

// numbers: the cubes of the numbers 0 .. count-1 of so many bits, with ahead ahead and behind behind: no two meet.
func numbers(count, bits int, ahead, behind string) []string {
	var list []string
	for n := range count {
		list = append(list, fmt.Sprintf("%s%0*b%s", ahead, bits, n, behind))
	}
	return list
}

// permit: a guard of these cubes, at most 64 a line.
func permit(cubes []string) []api.Guard {
	var lines []api.Guard
	for part := range slices.Chunk(cubes, api.MaxMatch) {
		lines = append(lines, api.Guard{Permit: true, Cubes: part})
	}
	return lines
}

// antichain: a guard that permits so many cubes of which no two meet, of at least 8 bits.
func antichain(bits, count int) []api.Guard { return permit(numbers(count, 8, "", x(bits-8))) }

// plain: one box with the in-ports 0 and 1 and the out-ports 2 (linked to 1) and 3, without guards. Entries without Ins hold at 0.
func plain(bits int, entries ...api.Entry) api.Net {
	n := api.Net{
		Bits:   bits,
		Ports:  []api.Port{{Name: "R.a", In: true, To: -1}, {Name: "R.b", In: true, To: -1}, {Name: "R.c", To: 1}, {Name: "R.d", To: -1}},
		Tables: [][]api.Entry{entries},
		Guards: make([][]api.Guard, 4),
	}
	for at := range entries {
		if entries[at].Ins == nil {
			entries[at].Ins = []int{0}
		}
	}
	return n
}

// send: an entry that writes nothing.
func send(cubes []string, outs ...int) api.Entry {
	return api.Entry{Cubes: cubes, Write: x(len(cubes[0])), Outs: outs}
}

// guarded: all comes to 3 that the guard there lets by.
func guarded(bits int, guard []api.Guard) api.Net {
	n := plain(bits, send([]string{x(bits)}, 3))
	n.Guards[3] = guard
	return n
}

// checkOver: both ways round the networks are refused just if they should be; else what is gained, or lost, begins so.
func checkOver(t *testing.T, what string, a, b api.Net, over bool, gained, lost string) {
	t.Helper()
	for _, q := range []struct {
		a, b         api.Net
		gained, lost string
	}{{a, b, gained, lost}, {b, a, lost, gained}} {
		line := compare(q.a, q.b, 0, 3, x(a.Bits), 1, most)
		if over {
			check(t, what, line, "error 3")
			continue
		}
		got, gone, _ := strings.Cut(line, "; ")
		if !strings.HasPrefix(got, q.gained+" from 0") || !strings.HasPrefix(gone, q.lost+" from 0") {
			t.Errorf("%s: %.400s; want %.200s and %.200s", what, line, q.gained, q.lost)
		}
	}
}

// The budget is that of each walk alone. What the one network is refused, the other may not be.
func TestTheBudgetOfTheWalks(t *testing.T) {
	a, b := plain(2, send([]string{"0x"}, 3)), plain(2, send([]string{"00", "01"}, 3), send([]string{"1x"}, 3))
	for budget := 1; budget < 9; budget++ {
		// The walk in a takes 1 and 1, that in b 1 and 2 and 1.
		want := "1x from 0: 10 [0 3] [1] 10; none from 0"
		if budget < 4 {
			want = "error 3"
		}
		check(t, fmt.Sprint("P16.1: a budget of ", budget), compare(a, b, 0, 3, "xx", 1, budget), want)
		if budget < 2 {
			want = "error 3"
		} else {
			want = "none from 0; none from 0"
		}
		check(t, fmt.Sprint("P16.1: a budget of ", budget), compare(a, a, 0, 3, "xx", 1, budget), want)
	}
}

// Minus by its size: all less as many cubes as there are.
func TestMinusGivesUpAtItsSize(t *testing.T) {
	all := guarded(9, nil)
	for _, count := range []int{126, 127, 128} {
		cubes := numbers(count, 8, "", "x")
		rest := strings.Join(append([]string{x(9)}, cubes...), "-")
		checkOver(t, fmt.Sprint("P16.2: all less ", count, " cubes"), all, guarded(9, permit(cubes)), count > 127, "none", rest)
	}
}

// Minus by its raw terms: those of the one times one more than the list of a term of the other.
func TestMinusGivesUpAtTheRawTerms(t *testing.T) {
	holed := guarded(9, []api.Guard{{Cubes: numbers(63, 6, "0", "xx")}, {Permit: true, Cubes: []string{"0" + x(8)}}})
	for _, count := range []int{31, 32, 33} {
		cubes := numbers(count, 6, "1", "xx")
		lost := strings.Join(append([]string{"0" + x(8)}, numbers(63, 6, "0", "xx")...), "-")
		checkOver(t, fmt.Sprint("P16.2: ", count, " terms"), holed, guarded(9, permit(cubes)), count > 32, strings.Join(cubes, "+"), lost)
	}
}

// corners: three cubes of a, b and c bits that no two of them share: all less these has a * b * c plain cubes.
func corners(bits, a, b, c int) []string {
	ones := func(ahead, n int) string { return x(ahead) + strings.Repeat("1", n) + x(bits-ahead-n) }
	return []string{ones(0, a), ones(a, b), ones(a+b, c)}
}

// Expand of what is gained or lost, where neither walk is too dear.
func TestTheExpandGivesUp(t *testing.T) {
	all := guarded(60, nil)
	for _, bits := range []int{13, 14, 15} {
		cubes := corners(60, 12, 12, bits)
		rest := strings.Join(append([]string{x(60)}, sorted(cubes)...), "-")
		checkOver(t, fmt.Sprint("P16.2: 12 * 12 * ", bits, " plain cubes"), all, guarded(60, permit(cubes)), bits > 14, "none", rest)
	}
}

func sorted(list []string) []string { return slices.Sorted(slices.Values(list)) }

// The Expand with just as many plain cubes as may be, and one more: 23 * 89 that begin with 1, and those that begin with 0.
func TestTheExpandAtTheEdge(t *testing.T) {
	both := corners(112, 23, 89, 0)[:2]
	few := guarded(113, permit([]string{"1" + both[0], "1" + both[1]}))
	for _, rest := range [][]string{{"0" + x(112)}, {"00" + x(111), "01" + x(111)}} {
		many := guarded(113, permit(append([]string{"1" + x(112)}, rest...)))
		gained := strings.Join(append(rest, "1"+x(112)+"-1"+both[0]+"-1"+both[1]), "+")
		checkOver(t, fmt.Sprint("P16.2: 2047 plain cubes and ", len(rest)), few, many, len(rest) > 1, gained, "none")
	}
}

// A walk from the witness alone takes no more than that from all: the last budget that is enough for both is enough.
func TestTheWalkOfTheWitness(t *testing.T) {
	s := source(51)
	for range 200 {
		a := s.asking(s.small())
		a.budget = api.MaxBudget
		want := a.compare()
		if want == "error 3" {
			continue
		}
		low, high := 1, api.MaxBudget
		for low < high {
			a.budget = (low + high) / 2
			if a.compare() == "error 3" {
				low = a.budget + 1
			} else {
				high = a.budget
			}
		}
		a.budget = low
		check(t, fmt.Sprint("P16.2: ", a), a.compare(), want)
	}
}
