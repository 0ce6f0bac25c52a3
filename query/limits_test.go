package query_test

// Where the questions give up, and where they do not: at the last number that fits, and one beyond.

import (
	"fmt"
	"slices"
	"strings"
	"testing"

	"reach/api"
)

// numbers: the cubes of the numbers 0 .. count-1 of so many bits, with ahead ahead and behind behind: no two meet.
func numbers(count, bits int, ahead, behind string) []string {
	var list []string
	for n := range count {
		list = append(list, fmt.Sprintf("%s%0*b%s", ahead, bits, n, behind))
	}
	return list
}

// antichain: a guard that permits so many cubes of which no two meet, of at least 8 bits; at most 64 a line.
func antichain(bits, count int) []api.Guard {
	var lines []api.Guard
	for part := range slices.Chunk(numbers(count, 8, "", x(max(bits-8, 0))), api.MaxMatch) {
		lines = append(lines, api.Guard{Permit: true, Cubes: part})
	}
	return lines
}

// plain: one box with the in-ports 0 and 1 and the out-ports 2 (linked to 1) and 3, without guards. Entries without Ins hold at 0.
func plain(bits int, entries ...api.Entry) api.Net {
	n := api.Net{
		Bits:   bits,
		Ports:  []api.Port{{Name: "R.a", In: true, To: -1}, {Name: "R.b", In: true, To: -1}, {Name: "R.c", To: 1}, {Name: "R.d", To: -1}},
		Tables: [][]api.Entry{entries},
		Guards: make([][]api.Guard, 4),
	}
	for at := range entries {
		if entries[at].Ins == nil {
			entries[at].Ins = []int{0}
		}
	}
	return n
}

// round: the same, with 2 linked to 0: what goes out there comes back.
func round(bits int, entries ...api.Entry) api.Net {
	n := plain(bits, entries...)
	n.Ports[2].To = 0
	return n
}

// send: an entry that writes nothing.
func send(cubes []string, outs ...int) api.Entry {
	return api.Entry{Cubes: cubes, Write: x(len(cubes[0])), Outs: outs}
}

// at: an entry of another in-port.
func at(port int, e api.Entry) api.Entry {
	e.Ins = []int{port}
	return e
}

// sum: a space's text of these cubes.
func sum(cubes []string) string { return strings.Join(cubes, "+") }

// less: a space's text of all less these cubes.
func less(bits int, cubes []string) string {
	return strings.Join(append([]string{x(bits)}, cubes...), "-")
}

// splits: all less three cubes of a, b and c bits that no two of them share: it has a * b * c plain cubes.
func splits(bits, a, b, c int) string {
	rest := bits - a - b - c
	ones := func(n int) string { return strings.Repeat("1", n) }
	return less(bits, []string{ones(a) + x(b+c+rest), x(a) + ones(b) + x(c+rest), x(a+b) + ones(c) + x(rest)})
}

// checkOver: the line tells ErrBudget just if it should; else that something is found, or not.
func checkOver(t *testing.T, what, line string, over, found bool) {
	t.Helper()
	switch {
	case strings.HasPrefix(line, "W") || strings.HasPrefix(line, "P"):
		t.Errorf("%s: %s", what, line)
	case over != (line == "error 3"):
		t.Errorf("%s: %.200s; want ErrBudget: %v", what, line, over)
	case !over && found == strings.HasPrefix(line, "none from"):
		t.Errorf("%s: %.200s; want found: %v", what, line, found)
	}
}

const most = api.MaxBudget

// The budget of the walk: 5 for two hops from 0, of Loop too; from a header that comes to less there is less.
func TestTheBudgetOfTheWalk(t *testing.T) {
	n := exampleNet()
	for budget := 1; budget < 8; budget++ {
		over := budget < 5
		what := fmt.Sprint("P13.2: a budget of ", budget)
		checkOver(t, what, reach(n, 0, 4, "xx", 2, budget), over, true)
		checkOver(t, what, reach(n, 0, 0, "xx", 2, budget), over, true)
		checkOver(t, what, missed(n, 0, 3, "xx", 2, budget), over, true)
		checkOver(t, what, loop(n, 0, "xx", 64, budget), over, true)
		checkOver(t, what, lost(n, 0, "xx", 2, budget), over, false)
		checkOver(t, what, isolate(n, zone("xx", 0), zone("xx", 4), 2, budget), over, true)
		checkOver(t, what, isolate(n, zone("xx", 0), zone("xx"), 2, budget), over, false)
		// Lost and the others go on where Loop does not.
		checkOver(t, what, lost(n, 0, "xx", 64, budget), budget < 7, false)
		checkOver(t, what, reach(n, 0, 4, "1x", 64, budget), budget < 3, true)
	}
}

// P13.7: each walk has the budget anew, and the first port that decides does.
func TestTheBudgetIsThatOfOneWalk(t *testing.T) {
	n := exampleNet()
	check(t, "P13.7", isolate(n, zone("1x", 0, 2, 1, 0, 2), zone("xx", 3), 64, 3), "none from 0")
	check(t, "P13.7", isolate(n, zone("xx", 4, 3, 0), zone("00", 1), 2, 5), "00 from 3: 00 [3 0 1] [0] 00")
	// From 0 it takes 5, from 4 it takes 1.
	check(t, "P13.7", isolate(n, zone("xx", 0, 4), zone("xx", 4), 2, 4), "error 3")
	check(t, "P13.7", isolate(n, zone("xx", 4, 0), zone("xx", 4), 2, 4), "xx from 4: 00 [4] [] 00")
	check(t, "P13.7", isolate(n, zone("xx", 4, 0), zone("xx", 3), 2, 4), "error 3")
	check(t, "P13.7", isolate(n, zone("xx", 4, 0), zone("xx", 3), 2, 5), "0x from 0: 00 [0 1 2 3] [0 1] 10")
}

// What xfer refuses is refused, wherever it is, and also where no entry would be applied.
func TestWhatXferRefuses(t *testing.T) {
	for port := range 4 {
		for _, count := range []int{127, 128, 129} {
			n := plain(9, send([]string{x(9)}, 2))
			n.Guards[port] = antichain(9, count)
			what := fmt.Sprint("P13.2: a guard of ", count, " cubes at ", port)
			for _, where := range []string{"none", x(9)} {
				checkOver(t, what, reach(n, 3, 3, where, 0, most), count > 128, where != "none")
				checkOver(t, what, missed(n, 3, 0, where, 0, most), count > 128, where != "none")
				checkOver(t, what, loop(n, 3, where, 0, most), count > 128, false)
				checkOver(t, what, lost(n, 3, where, 0, most), count > 128, false)
				checkOver(t, what, isolate(n, zone(where, 3), zone(x(9), 3), 0, most), count > 128, where != "none")
			}
		}
	}
}

// P13.3, P13.4: the Join of At by its size.
func TestReachGivesUpAtTheJoin(t *testing.T) {
	for _, count := range []int{63, 64, 65} {
		n := plain(9, send(numbers(64, 6, "0", "xx"), 3), send(numbers(count-2, 6, "10", "x"), 3), send([]string{"111111110", "111111111"}, 2, 3))
		what := fmt.Sprint("P13.3: 64 and ", count, " cubes")
		checkOver(t, what, reach(n, 0, 3, x(9), 1, most), count > 64, true)
		checkOver(t, what, reach(n, 0, 2, x(9), 1, most), false, true)
		checkOver(t, what, missed(n, 0, 2, x(9), 1, most), false, true)
		// Minus takes one cube more than there are to be taken away; here it is all less 64 and count.
		checkOver(t, "P13.4, "+what, missed(n, 0, 3, x(9), 1, most), count > 63, true)
		// What is not asked about counts nothing.
		checkOver(t, "P13.4, "+what, missed(n, 0, 3, "0"+x(8), 1, most), false, false)
	}
}

// P13.4: Minus by its raw terms: those of X times one more than the list of what is taken away.
func TestMissedGivesUpAtTheRawTerms(t *testing.T) {
	n := plain(9, send([]string{x(9)}, 3))
	n.Guards[3] = []api.Guard{{Cubes: numbers(63, 6, "0", "xx")}, {Permit: true, Cubes: []string{x(9)}}}
	for _, count := range []int{31, 32, 33} {
		// What comes begins with the term 0xxxxxxxx less 63 cubes.
		where := sum(append(numbers(count-1, 6, "1", "xx"), "0"+x(8)))
		what := fmt.Sprint("P13.4: ", count, " terms")
		checkOver(t, what, missed(n, 0, 3, where, 1, most), count > 32, true)
		checkOver(t, what, reach(n, 0, 3, where, 1, most), false, true)
	}
}

// P13.3: Least of what comes, where no flow alone is too dear. Missed does not ask for it.
func TestLeastOfReachGivesUp(t *testing.T) {
	where := splits(60, 12, 12, 14)
	one, two := x(59)+"1", x(59)+"0"
	n := plain(60, send([]string{one}, 3), send([]string{two}, 3))
	check(t, "P13.3", reach(n, 0, 3, where, 1, most), "error 3")
	check(t, "P13.4", missed(n, 0, 3, where, 1, most), "none from 0")
	checkOver(t, "P13.3", reach(n, 0, 0, where, 1, most), false, true)
	// Each half alone is cheap enough.
	for at, half := range []string{one, two} {
		n := plain(60, send([]string{half}, 3))
		checkOver(t, "P13.3: one half", reach(n, 0, 3, where, 1, most), false, true)
		check(t, "P13.4: the other half", missed(n, 0, 3, where, 1, most), where+"-"+half+" from 0: "+strings.Repeat("0", 59)+fmt.Sprint(at)+" [0] [] "+strings.Repeat("0", 59)+fmt.Sprint(at))
	}
}

// P13.2: Least with just as many plain cubes as may be, and one more.
func TestLeastAtTheEdge(t *testing.T) {
	one := "1" + x(112)
	where := strings.Join([]string{one, "1" + strings.Repeat("1", 23) + x(89), "1" + x(23) + strings.Repeat("1", 89)}, "-") + "+0" + x(112)
	for _, rest := range [][]string{{"0" + x(112)}, {"00" + x(111), "01" + x(111)}} {
		over := len(rest) > 1 // 23 * 89 and 1 are 2048
		entries := func(out int) []api.Entry {
			list := []api.Entry{send([]string{one}, out)}
			for _, cube := range rest {
				list = append(list, send([]string{cube}, out))
			}
			return list
		}
		what := fmt.Sprint("P13.2: 2047 plain cubes and ", len(rest))
		checkOver(t, what, reach(plain(113, entries(3)...), 0, 3, where, 1, most), over, true)
		checkOver(t, what, loop(round(113, entries(2)...), 0, where, 1, most), over, true)
		checkOver(t, what, isolate(plain(113, entries(2)...), zone(where, 0), zone(x(113), 1), 1, most), over, true)
	}
	last := strings.Split(splits(60, 16, 16, 8), "-")
	n := plain(60, send(last[1:2], 3), send(last[2:3], 3), send(last[3:], 3))
	checkOver(t, "P13.2: 2048 plain cubes are missed", missed(n, 0, 3, x(60), 1, most), false, true)
}

// P13.4: Least of what is missed.
func TestLeastOfMissedGivesUp(t *testing.T) {
	for _, bits := range []int{14, 15} {
		cubes := strings.Split(splits(60, 12, 12, bits), "-")
		n := plain(60, send(cubes[1:2], 3), send(cubes[2:3], 3), send(cubes[3:], 3))
		what := fmt.Sprint("P13.4: 12 * 12 * ", bits, " plain cubes")
		checkOver(t, what, missed(n, 0, 3, x(60), 1, most), bits > 14, true)
		checkOver(t, what, reach(n, 0, 3, x(60), 1, most), false, true)
	}
}

// P13.5: the Join by its size, and Least.
func TestLoopGivesUp(t *testing.T) {
	for _, count := range []int{63, 64, 65} {
		n := round(9, send(numbers(64, 6, "0", "xx"), 2), send(numbers(count-2, 6, "10", "x"), 2), send([]string{"111111110", "111111111"}, 2))
		what := fmt.Sprint("P13.5: 64 and ", count, " cubes")
		checkOver(t, what, loop(n, 0, x(9), 1, most), count > 64, true)
		checkOver(t, what, loop(n, 0, x(9), 0, most), false, false)
		// What does not come back counts nothing.
		n = round(9, send(numbers(64, 6, "0", "xx"), 2), send(numbers(count-2, 6, "10", "x"), 2), send([]string{"111111110", "111111111"}, 3))
		checkOver(t, what, loop(n, 0, x(9), 1, most), false, true)
	}
	where := splits(60, 12, 12, 14)
	check(t, "P13.5", loop(round(60, send([]string{x(59) + "1"}, 2), send([]string{x(59) + "0"}, 2)), 0, where, 1, most), "error 3")
	checkOver(t, "P13.5", loop(round(60, send([]string{x(59) + "1"}, 2), send([]string{x(59) + "0"}, 3)), 0, where, 1, most), false, true)
}

// P13.6: Gone is asked for where a flow ends, and nowhere else.
func TestLostGivesUpAtGone(t *testing.T) {
	for _, count := range []int{62, 63, 64} {
		n := plain(9, send([]string{x(9)}, 2), at(1, send(numbers(64, 6, "0", "xx"), 3)), at(1, send(numbers(count, 6, "10", "x"), 3)))
		what := fmt.Sprint("P13.6: all less 64 and ", count, " cubes")
		checkOver(t, what, lost(n, 0, x(9), 1, most), count > 63, true)
		checkOver(t, what, lost(n, 1, "000000000", 0, most), count > 63, false)
		checkOver(t, what, lost(n, 2, "111111111", 0, most), count > 63, true)
		checkOver(t, what+", not that far", lost(n, 0, x(9), 0, most), false, false)
		checkOver(t, what+", not there", lost(n, 3, x(9), 64, most), false, false)
		checkOver(t, what+", nothing", lost(n, 1, "none", 64, most), false, false)
	}
}

// denied: all goes from 0 to 1, where the guard stops just these cubes.
func denied(cubes []string) api.Net {
	all := []string{x(len(cubes[0]))}
	n := plain(len(cubes[0]), send(all, 2), at(1, send(all, 3)))
	n.Guards[1] = []api.Guard{{Cubes: cubes}, {Permit: true, Cubes: all}}
	return n
}

// P13.6: the Meet by its raw terms and by its size; what was written ahead of it may leave less.
func TestLostGivesUpAtTheMeet(t *testing.T) {
	for _, count := range []int{31, 32, 33} {
		cubes := numbers(count, 6, "", "xxx")
		what := fmt.Sprint("P13.6: 64 terms met with ", count)
		n := denied(numbers(64, 6, "", "xxx"))
		checkOver(t, what, lost(n, 0, sum(cubes), 1, most), count > 32, true)
		checkOver(t, what+", not that far", lost(n, 0, sum(cubes), 0, most), false, false)
		n.Tables[0][0].Write = "000000xxx"
		checkOver(t, what+", written into one", lost(n, 0, sum(cubes), 1, most), false, true)
	}
	for _, count := range []int{15, 16, 17} {
		n := denied(numbers(8, 3, x(6), ""))
		what := fmt.Sprint("P13.6: 8 terms met with ", count)
		checkOver(t, what, lost(n, 0, sum(numbers(count, 6, "", "xxx")), 1, most), count > 16, true)
		n.Tables[0][0].Write = x(6) + "000"
		checkOver(t, what+", written into one", lost(n, 0, sum(numbers(count, 6, "", "xxx")), 1, most), false, true)
	}
}

// P13.6: the Join by its size: what is lost at 1 by two flows, and behind that at 0, where nothing is.
func TestLostGivesUpAtTheJoin(t *testing.T) {
	for _, count := range []int{59, 60, 61} {
		n := plain(9,
			send(numbers(64, 6, "0", "xx"), 2), send(numbers(count, 6, "10", "x"), 2),
			send([]string{"0" + x(8)}, 3), send([]string{"10" + x(7)}, 3), send([]string{"11" + x(7)}, 3))
		// At 0 all less 0, 10 and 11 is lost: four cubes without a header.
		checkOver(t, fmt.Sprint("P13.6: 4, 64 and ", count, " cubes"), lost(n, 0, x(9), 1, most), count > 60, true)
	}
}

// P13.6: Least of what is lost, where no flow alone is too dear.
func TestLeastOfLostGivesUp(t *testing.T) {
	where := splits(60, 12, 12, 14)
	n := plain(60, send([]string{x(59) + "1"}, 2), send([]string{x(60)}, 2))
	check(t, "P13.6", lost(n, 0, where, 1, most), "error 3")
	n = plain(60, send([]string{x(59) + "1"}, 2), send([]string{x(60)}, 3))
	checkOver(t, "P13.6", lost(n, 0, where, 1, most), false, true)
}

// P13.7: the Meet by its raw terms and by its size; what was written ahead of it may leave less.
func TestIsolateGivesUpAtTheMeet(t *testing.T) {
	for _, count := range []int{31, 32, 33} {
		n := plain(9, send([]string{x(9)}, 3))
		p, q := zone(sum(numbers(count, 6, "", "xxx")), 0), zone(sum(numbers(64, 6, "", "xxx")), 3)
		what := fmt.Sprint("P13.7: 64 terms met with ", count)
		checkOver(t, what, isolate(n, p, q, 1, most), count > 32, true)
		checkOver(t, what+", not that far", isolate(n, p, q, 0, most), false, false)
		// Though nothing of p is in q, the Meet is refused.
		checkOver(t, what+" apart", isolate(n, p, zone(sum(numbers(64, 6, "111", "")), 3), 1, most), count > 32, false)
		n.Tables[0][0].Write = "000000xxx"
		checkOver(t, what+", written into one", isolate(n, p, q, 1, most), false, true)
	}
	for _, count := range []int{15, 16, 17} {
		n := plain(9, send([]string{x(9)}, 3))
		p, q := zone(sum(numbers(count, 6, "", "xxx")), 0), zone(sum(numbers(8, 3, x(6), "")), 3)
		what := fmt.Sprint("P13.7: 8 terms met with ", count)
		checkOver(t, what, isolate(n, p, q, 1, most), count > 16, true)
		n.Tables[0][0].Write = x(6) + "000"
		checkOver(t, what+", written into one", isolate(n, p, q, 1, most), false, true)
	}
}

// P13.7: the Join by its size, and Least.
func TestIsolateGivesUpAtTheJoin(t *testing.T) {
	for _, count := range []int{63, 64, 65} {
		n := plain(9, send(numbers(64, 6, "0", "xx"), 2), send(numbers(count-2, 6, "10", "x"), 3), send([]string{"111111110", "111111111"}, 3))
		what := fmt.Sprint("P13.7: 64 and ", count, " cubes")
		checkOver(t, what, isolate(n, zone(x(9), 0), zone(x(9), 3, 1), 1, most), count > 64, true)
		checkOver(t, what, isolate(n, zone(x(9), 0), zone(x(9), 3), 1, most), false, true)
		// A part without a cube counts nothing.
		checkOver(t, what, isolate(n, zone(x(9), 0), zone("0"+x(8), 3, 1), 1, most), false, true)
	}
	where := splits(60, 12, 12, 14)
	n := plain(60, send([]string{x(59) + "1"}, 2), send([]string{x(59) + "0"}, 3))
	check(t, "P13.7", isolate(n, zone(where, 0), zone(x(60), 2, 3), 1, most), "error 3")
	checkOver(t, "P13.7", isolate(n, zone(where, 0), zone(x(60), 2), 1, most), false, true)
	// The port that gives up decides, though a later one has a header that comes; so does one ahead of it.
	check(t, "P13.7", isolate(n, zone(where, 0, 3), zone(x(60), 2, 3), 1, most), "error 3")
	checkOver(t, "P13.7", isolate(n, zone(where, 3, 0), zone(x(60), 2, 3), 1, most), false, true)
}

// chain: so many boxes, one behind the other, each of one entry that sends all on; the last one back to the first.
func chain(bits, boxes int) api.Net {
	n := api.Net{Bits: bits}
	for b := range boxes {
		n.Ports = append(n.Ports, api.Port{Name: fmt.Sprint("R", b, ".a"), Box: b, In: true, To: -1}, api.Port{Name: fmt.Sprint("R", b, ".b"), Box: b, To: 2 * ((b + 1) % boxes)})
		n.Tables = append(n.Tables, []api.Entry{{Ins: []int{2 * b}, Cubes: []string{"1" + x(bits-1)}, Write: x(bits-1) + "0", Outs: []int{2*b + 1}}})
	}
	n.Guards = make([][]api.Guard, len(n.Ports))
	return n
}

// P13.9: one entry a table, one cube and one out-port each: a budget of hops + 1 is enough, and where packets go round Reach needs it.
func TestAChainIsAnswered(t *testing.T) {
	for _, boxes := range []int{1, 2, 3, 16} {
		n := chain(2, boxes)
		last := 2*boxes - 1
		for hops := range api.MaxHops + 1 {
			what := fmt.Sprint("P13.9: ", boxes, " boxes, ", hops, " hops")
			for _, where := range []string{"xx", "1x", "11"} {
				checkOver(t, what, reach(n, 0, last, where, hops, hops+1), false, hops >= boxes)
				checkOver(t, what, loop(n, 0, where, hops, hops+1), false, hops >= boxes)
				checkOver(t, what, missed(n, 0, last, where, hops, hops+1), false, hops < boxes || where == "xx")
			}
			if hops > 0 {
				checkOver(t, what, reach(n, 0, last, "1x", hops, hops), true, false)
			}
			checkOver(t, what, loop(n, 0, "1x", hops, min(hops, boxes)+1), false, hops >= boxes)
			checkOver(t, what, reach(n, 0, last, "0x", hops, 1), false, false)
		}
	}
}
