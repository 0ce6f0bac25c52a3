package trail_test

// Where Find and Avoid give up, and where they do not: at the last number that fits, and one beyond.

import (
	"fmt"
	"slices"
	"strings"
	"testing"

	"reach/api"
)

// numbers: the cubes of the numbers 0 .. count-1 of so many bits, with ahead ahead and behind behind: no two meet.
func numbers(count, bits int, ahead, behind string) []string {
	var list []string
	for n := range count {
		list = append(list, fmt.Sprintf("%s%0*b%s", ahead, bits, n, behind))
	}
	return list
}

// permit: a guard of these cubes, at most 64 a line.
func permit(cubes []string) []api.Guard {
	var lines []api.Guard
	for part := range slices.Chunk(cubes, api.MaxMatch) {
		lines = append(lines, api.Guard{Permit: true, Cubes: part})
	}
	return lines
}

// antichain: a guard that permits so many cubes of which no two meet, of at least 8 bits.
func antichain(bits, count int) []api.Guard { return permit(numbers(count, 8, "", x(bits-8))) }

// plain: one box with the in-ports 0 and 1 and the out-ports 2 (linked to 1) and 3, without guards. Entries without Ins hold at 0.
func plain(bits int, entries ...api.Entry) api.Net {
	n := api.Net{
		Bits:   bits,
		Ports:  []api.Port{{Name: "R.a", In: true, To: -1}, {Name: "R.b", In: true, To: -1}, {Name: "R.c", To: 1}, {Name: "R.d", To: -1}},
		Tables: [][]api.Entry{entries},
		Guards: make([][]api.Guard, 4),
	}
	for at := range entries {
		if entries[at].Ins == nil {
			entries[at].Ins = []int{0}
		}
	}
	return n
}

// send: an entry that writes nothing.
func send(cubes []string, outs ...int) api.Entry {
	return api.Entry{Cubes: cubes, Write: x(len(cubes[0])), Outs: outs}
}

// splits: all less three cubes of a, b and c bits that no two of them share: it has a * b * c plain cubes.
func splits(bits, a, b, c int) string {
	rest := bits - a - b - c
	ones := func(n int) string { return many(n, "1") }
	return strings.Join([]string{x(bits), ones(a) + x(b+c+rest), x(a) + ones(b) + x(c+rest), x(a+b) + ones(c) + x(rest)}, "-")
}

// checkOver: the line tells ErrBudget just if it should; else that something is found, or not.
func checkOver(t *testing.T, what, line string, over, found bool) {
	t.Helper()
	switch {
	case strings.HasPrefix(line, "W") || strings.HasPrefix(line, "P"):
		t.Errorf("%s: %s", what, line)
	case over != (line == "error 3"):
		t.Errorf("%s: %.200s; want ErrBudget: %v", what, line, over)
	case !over && found == strings.HasPrefix(line, "none from"):
		t.Errorf("%s: %.200s; want found: %v", what, line, found)
	}
}

const most = api.MaxBudget

// The budget of the walk: 5 for two hops from 0, whatever is asked for; the walk does not stop where a port comes twice.
func TestTheBudgetOfTheWalk(t *testing.T) {
	n := exampleNet()
	for budget := 1; budget < 9; budget++ {
		what := fmt.Sprint("P14.4: a budget of ", budget)
		checkOver(t, what, find(n, 0, "xx", ".*", 2, budget), budget < 5, true)
		checkOver(t, what, find(n, 0, "xx", "R1.a", 2, budget), budget < 5, true)
		checkOver(t, what, find(n, 0, "xx", "", 2, budget), budget < 5, false)
		checkOver(t, what, find(n, 0, "xx", ".* R1.a .* R1.a .* R2.d", 64, budget), budget < 7, true)
		checkOver(t, what, avoid(n, 0, 0, "xx", "", 2, budget), budget < 5, true)
		checkOver(t, what, avoid(n, 0, 4, "xx", ".*", 2, budget), budget < 5, false)
		checkOver(t, what, avoid(n, 0, 2, "xx", "R1 R1 R2", 64, budget), budget < 7, true)
		checkOver(t, what, find(n, 0, "1x", ".* R2.d", 64, budget), budget < 3, true)
		checkOver(t, what, find(n, 0, "none", ".*", 64, budget), false, false)
	}
}

// What xfer refuses is refused, wherever it is, and also where no entry would be applied.
func TestWhatXferRefuses(t *testing.T) {
	for port := range 4 {
		for _, count := range []int{127, 128, 129} {
			n := plain(9, send([]string{x(9)}, 2))
			n.Guards[port] = antichain(9, count)
			what := fmt.Sprint("P14.4: a guard of ", count, " cubes at ", port)
			for _, where := range []string{"none", x(9)} {
				checkOver(t, what, find(n, 3, where, ".", 0, most), count > 128, where != "none")
				checkOver(t, what, find(n, 3, where, "", 0, most), count > 128, false)
				checkOver(t, what, avoid(n, 3, 3, where, "", 0, most), count > 128, where != "none")
			}
		}
	}
}

// The Join by its size; flows that do not count add nothing to it.
func TestTheJoinGivesUp(t *testing.T) {
	for _, count := range []int{63, 64, 65} {
		n := plain(9, send(numbers(64, 6, "0", "xx"), 3), send(numbers(count-2, 6, "10", "x"), 3), send([]string{"111111110", "111111111"}, 2, 3))
		what := fmt.Sprint("P14.4: 64 and ", count, " cubes")
		checkOver(t, what, find(n, 0, x(9), ".* R.d", 1, most), count > 64, true)
		checkOver(t, what, find(n, 0, x(9), ". R.d", 1, most), count > 64, true)
		checkOver(t, what, find(n, 0, x(9), ".* R.c .*", 1, most), false, true)
		checkOver(t, what, find(n, 0, x(9), ".* R.d", 0, most), false, false)
		checkOver(t, what, find(n, 0, "0"+x(8), ".* R.d", 1, most), false, true)
		checkOver(t, "P14.5, "+what, avoid(n, 0, 3, x(9), "", 1, most), count > 64, true)
		checkOver(t, "P14.5, "+what, avoid(n, 0, 3, x(9), ". .", 1, most), false, false)
		checkOver(t, "P14.5, "+what, avoid(n, 0, 2, x(9), "", 1, most), false, true)
		// The first flow has all headers: its origin covers the others.
		checkOver(t, what, find(n, 0, x(9), ".*", 1, most), false, true)
	}
}

// The Join is made flow by flow: what comes too late to cover the others does not help.
func TestTheJoinIsMadeInOrder(t *testing.T) {
	for _, count := range []int{64, 65} {
		for _, outs := range [][]int{{1, 2, 3}, {3, 1, 2}, {1, 3, 2}} {
			n := plain(9, send([]string{x(9)}, outs...))
			n.Ports[1] = api.Port{Name: "R.b", To: -1}
			n.Ports[2].To = -1
			n.Guards[1], n.Guards[2] = permit(numbers(64, 6, "0", "xx")), permit(append(numbers(count-1, 6, "10", "x"), "111111111"))
			over := count > 64 && outs[2] == 3
			what := fmt.Sprint("P14.4: 64 and ", count, " cubes and all, in the order ", outs)
			checkOver(t, what, find(n, 0, x(9), ". .", 1, most), over, true)
			checkOver(t, what, find(n, 0, x(9), ". .?", 1, most), false, true)
			checkOver(t, what, find(n, 0, x(9), ". !R.d", 1, most), count > 64, true)
			checkOver(t, what, find(n, 0, x(9), ". !R.b", 1, most), false, true)
		}
	}
}

// Least of what is found, where no flow alone is too dear.
func TestLeastGivesUp(t *testing.T) {
	where := splits(60, 12, 12, 14)
	one, two := x(59)+"1", x(59)+"0"
	n := plain(60, send([]string{one}, 3), send([]string{two}, 3, 2))
	check(t, "P14.4", find(n, 0, where, ".* R.d", 1, most), "error 3")
	check(t, "P14.5", avoid(n, 0, 3, where, "", 1, most), "error 3")
	checkOver(t, "P14.4", find(n, 0, where, ".* R.c", 1, most), false, true)
	checkOver(t, "P14.5", avoid(n, 0, 2, where, "", 1, most), false, true)
	checkOver(t, "P14.5", avoid(n, 0, 3, where, ".*", 1, most), false, false)
	checkOver(t, "P14.4", find(n, 0, where, ".", 1, most), false, true)
}

// Least with just as many plain cubes as may be, and one more.
func TestLeastAtTheEdge(t *testing.T) {
	one := "1" + x(112)
	where := strings.Join([]string{one, "1" + many(23, "1") + x(89), "1" + x(23) + many(89, "1")}, "-") + "+0" + x(112)
	for _, rest := range [][]string{{"0" + x(112)}, {"00" + x(111), "01" + x(111)}} {
		entries := []api.Entry{send([]string{one}, 3)}
		for _, cube := range rest {
			entries = append(entries, send([]string{cube}, 3))
		}
		over := len(rest) > 1 // 23 * 89 and 1 are 2048
		what := fmt.Sprint("P14.4: 2047 plain cubes and ", len(rest))
		checkOver(t, what, find(plain(113, entries...), 0, where, ".* R.d", 1, most), over, true)
		checkOver(t, what, avoid(plain(113, entries...), 0, 3, where, "R", 1, most), over, true)
	}
}

// ring: so many boxes, one behind the other, the last one linked to the first; each has so many entries that send on what they match.
func ring(bits, boxes int, cubes ...string) api.Net {
	n := api.Net{Bits: bits}
	for b := range boxes {
		n.Ports = append(n.Ports, api.Port{Name: fmt.Sprint("R", b, ".a"), Box: b, In: true, To: -1}, api.Port{Name: fmt.Sprint("R", b, ".b"), Box: b, To: 2 * ((b + 1) % boxes)})
		var table []api.Entry
		for _, cube := range cubes {
			table = append(table, api.Entry{Ins: []int{2 * b}, Cubes: []string{cube}, Write: x(bits), Outs: []int{2*b + 1}})
		}
		n.Tables = append(n.Tables, table)
	}
	n.Guards = make([][]api.Guard, len(n.Ports))
	return n
}

// Nearly as many flows as may be, as long as may be, with patterns of nearly as many items as may be: this ends soon.
func TestTheMostWork(t *testing.T) {
	n := ring(4, 16, numbers(15, 4, "", "")...)
	for _, pattern := range []string{many(24, ".?"), "(" + many(23, ".?") + ")*", many(9, "(.?|.*)"), many(15, "(.?") + many(15, ")*"), "(" + many(11, ".?!R0?") + ")* none"} {
		if refusedAt(pattern) >= 0 {
			t.Fatalf("%q is refused", pattern)
		}
		// 15 headers, each with 64 hops, and the flow without one are 961.
		for _, where := range []string{x(4), "00xx", "0000"} {
			checkOver(t, "P14.4: "+pattern, find(n, 0, where, pattern, api.MaxHops, most), false, !strings.HasSuffix(pattern, "none"))
			checkOver(t, "P14.5: "+pattern, avoid(n, 0, 31, where, "("+pattern+") R1", api.MaxHops, most), false, true)
		}
	}
}
