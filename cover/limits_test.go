package cover_test

// Where the calls give up, and where they do not: at the last number that fits, and one beyond.

import (
	"fmt"
	"slices"
	"strings"
	"testing"

	"reach/api"
)

const most = api.MaxBudget

// numbers: the cubes of the numbers 0 .. count-1 of so many bits, with ahead ahead and behind behind: no two meet.
func numbers(count, bits int, ahead, behind string) []string {
	var list []string
	for n := range count {
		list = append(list, fmt.Sprintf("%s%0*b%s", ahead, bits, n, behind))
	}
	return list
}

// permit: a guard of these cubes, at most 64 a line.
func permit(cubes []string) []api.Guard {
	var lines []api.Guard
	for part := range slices.Chunk(cubes, api.MaxMatch) {
		lines = append(lines, api.Guard{Permit: true, Cubes: part})
	}
	return lines
}

// antichain: a guard that permits so many cubes of which no two meet, of at least 8 bits.
func antichain(bits, count int) []api.Guard { return permit(numbers(count, 8, "", x(bits-8))) }

// plain: one box with the in-ports 0 and 1 and the out-ports 2 (linked to 1) and 3, without guards. Entries without Ins hold at 0.
func plain(bits int, entries ...api.Entry) api.Net {
	n := api.Net{
		Bits:   bits,
		Ports:  []api.Port{{Name: "R.a", In: true, To: -1}, {Name: "R.b", In: true, To: -1}, {Name: "R.c", To: 1}, {Name: "R.d", To: -1}},
		Tables: [][]api.Entry{entries},
		Guards: make([][]api.Guard, 4),
	}
	for at := range entries {
		if entries[at].Ins == nil {
			entries[at].Ins = []int{0}
		}
	}
	return n
}

// send: an entry that writes nothing.
func send(cubes []string, outs ...int) api.Entry {
	return api.Entry{Cubes: cubes, Write: x(len(cubes[0])), Outs: outs}
}

// at: an entry of other in-ports.
func at(e api.Entry, ports ...int) api.Entry {
	e.Ins = ports
	return e
}

// corners: three cubes of a, b and c bits that no two of them share: all less these has a * b * c plain cubes.
func corners(bits, a, b, c int) (one, two, three []string) {
	ones := func(ahead, n int) []string {
		return []string{x(ahead) + strings.Repeat("1", n) + x(bits-ahead-n)}
	}
	return ones(0, a), ones(a, b), ones(a+b, c)
}

// checkOver: the line tells ErrBudget just if it should.
func checkOver(t *testing.T, what, line string, over bool) {
	t.Helper()
	if strings.HasPrefix(line, "W") || over != (line == "error 3") {
		t.Errorf("%s: %.200s; want ErrBudget: %v", what, line, over)
	}
}

// The budget of the walk: 5 for two hops from 0, whichever entry is asked for; 6 for three, 7 from four on.
func TestTheBudgetOfTheWalk(t *testing.T) {
	n := exampleNet()
	for budget := 1; budget < 9; budget++ {
		what := fmt.Sprint("a budget of ", budget)
		for entry := range 3 {
			checkOver(t, "P15.2: "+what, meets(n, 0, entry, 0, budget), false)
			checkOver(t, "P15.2: "+what, meets(n, 0, entry, 1, budget), budget < 2)
			checkOver(t, "P15.2: "+what, meets(n, 0, entry, 2, budget), budget < 5)
			checkOver(t, "P15.2: "+what, meets(n, 0, entry, 3, budget), budget < 6)
			checkOver(t, "P15.2: "+what, meets(n, 0, entry, 64, budget), budget < 7)
		}
		checkOver(t, "P15.3: "+what, covered(n, nil, 2, budget), false)
		checkOver(t, "P15.3: "+what, covered(n, []int{0}, 2, budget), budget < 5)
		checkOver(t, "P15.3: "+what, covered(n, []int{0}, 64, budget), budget < 7)
		// Each door has all of it: from 2 it takes 4 with one hop, 5 with two, 6 from three on.
		checkOver(t, "P15.3: "+what, covered(n, []int{2}, 1, budget), budget < 4)
		checkOver(t, "P15.3: "+what, covered(n, []int{0, 2}, 1, budget), budget < 4)
		checkOver(t, "P15.3: "+what, covered(n, []int{2, 0}, 1, budget), budget < 4)
		checkOver(t, "P15.3: "+what, covered(n, []int{0, 2}, 2, budget), budget < 5)
		checkOver(t, "P15.3: "+what, covered(n, []int{2}, 64, budget), budget < 6)
		checkOver(t, "P15.3: "+what, covered(n, []int{2, 0}, 64, budget), budget < 7)
	}
}

// What xfer refuses is refused, wherever it is, and also where no entry would be applied, or there is no door.
func TestWhatXferRefuses(t *testing.T) {
	for port := range 4 {
		for _, count := range []int{127, 128, 129} {
			n := plain(9, send([]string{x(9)}, 3))
			n.Guards[port] = antichain(9, count)
			what := fmt.Sprint("a guard of ", count, " cubes at ", port)
			for _, hops := range []int{0, 1} {
				checkOver(t, "P15.2: "+what, meets(n, 1, 0, hops, most), count > 128)
				checkOver(t, "P15.3: "+what, covered(n, nil, hops, most), count > 128)
				checkOver(t, "P15.3: "+what, covered(n, []int{1}, hops, most), count > 128)
			}
		}
	}
}

// The Meet by its raw terms: those of the origin times those of the hit. The entry of the hit drops, so that the walk itself makes no such Meet.
func TestTheMeetGivesUpAtTheRawTerms(t *testing.T) {
	for _, count := range []int{31, 32, 33} {
		n := plain(9, send(numbers(count, 6, "", "xxx"), 2), at(send(numbers(64, 6, "", "xxx")), 1))
		what := fmt.Sprint(count, " terms met with 64")
		// Whichever entry is asked for.
		for entry := range 2 {
			checkOver(t, "P15.2: "+what, meets(n, 0, entry, 2, most), count > 32)
			checkOver(t, "P15.2, not that far: "+what, meets(n, 0, entry, 1, most), false)
			checkOver(t, "P15.2, from there: "+what, meets(n, 1, entry, 2, most), false)
		}
		checkOver(t, "P15.3: "+what, covered(n, []int{0}, 2, most), count > 32)
		checkOver(t, "P15.3: "+what, covered(n, []int{1, 0}, 2, most), count > 32)
		checkOver(t, "P15.3, not that far: "+what, covered(n, []int{0}, 1, most), false)
		checkOver(t, "P15.3, from there: "+what, covered(n, []int{1}, 2, most), false)
		// Though nothing is met, the Meet is refused.
		n.Tables[0][1].Cubes = numbers(64, 6, "111", "")
		checkOver(t, "P15.2, apart: "+what, meets(n, 0, 1, 2, most), count > 32)
		// What was written ahead of it leaves less.
		n.Tables[0][1].Cubes = numbers(64, 6, "", "xxx")
		n.Tables[0][0].Write = "000000xxx"
		checkOver(t, "P15.2, written into one: "+what, meets(n, 0, 1, 2, most), false)
		checkOver(t, "P15.3, written into one: "+what, covered(n, []int{0}, 2, most), false)
	}
}

// The Meet by its size.
func TestTheMeetGivesUpAtItsSize(t *testing.T) {
	for _, count := range []int{15, 16, 17} {
		n := plain(9, send(numbers(count, 6, "", "xxx"), 2), at(send(numbers(8, 3, x(6), "")), 1))
		what := fmt.Sprint(count, " terms met with 8")
		checkOver(t, "P15.2: "+what, meets(n, 0, 1, 2, most), count > 16)
		checkOver(t, "P15.2: "+what, meets(n, 0, 0, 2, most), count > 16)
		checkOver(t, "P15.3: "+what, covered(n, []int{0}, 2, most), count > 16)
		n.Tables[0][0].Write = x(6) + "000"
		checkOver(t, "P15.2, written into one: "+what, meets(n, 0, 1, 2, most), false)
		checkOver(t, "P15.3, written into one: "+what, covered(n, []int{0}, 2, most), false)
	}
}

// The Expand of a meeting's space, where neither the flow nor the hit alone is too dear.
func TestTheExpandGivesUp(t *testing.T) {
	for _, bits := range []int{14, 15} {
		one, two, three := corners(60, 12, 12, bits)
		n := plain(60, send(one), send(two), send([]string{x(60)}, 2), at(send(three), 1), at(send([]string{x(60)}), 1))
		what := fmt.Sprint("12 * 12 * ", bits, " plain cubes")
		for entry := range 5 {
			checkOver(t, "P15.2: "+what, meets(n, 0, entry, 2, most), bits > 14)
			checkOver(t, "P15.2, not that far: "+what, meets(n, 0, entry, 1, most), false)
			checkOver(t, "P15.2, from there: "+what, meets(n, 1, entry, 2, most), false)
		}
		checkOver(t, "P15.3: "+what, covered(n, []int{1, 0}, 2, most), bits > 14)
		checkOver(t, "P15.3, not that far: "+what, covered(n, []int{1, 0}, 1, most), false)
	}
}

// The same with just as many plain cubes as may be, and one more.
func TestTheExpandAtTheEdge(t *testing.T) {
	one, two, _ := corners(112, 23, 89, 0)
	for _, rest := range [][]string{{"0" + x(112)}, {"00" + x(111), "01" + x(111)}} {
		n := plain(113, send([]string{"1" + one[0]}), send([]string{"1" + x(112)}, 2), send(rest, 3), at(send([]string{"1" + two[0]}), 1), at(send([]string{x(113)}), 1))
		// At 1, all but the second cube; of the 2047 cubes that come there none is too much.
		check(t, "P15.2: 2047 plain cubes", fmt.Sprint(len(meets(n, 0, 4, 2, most))), fmt.Sprint(113*3+2))
		// What comes as well are the others, by the same entry: 2047 and as many as these are.
		n.Tables[0][1].Cubes = append(n.Tables[0][1].Cubes, rest...)
		over := len(rest) > 1
		checkOver(t, fmt.Sprint("P15.2: 2047 plain cubes and ", len(rest)), meets(n, 0, 4, 2, most), over)
		checkOver(t, fmt.Sprint("P15.3: 2047 plain cubes and ", len(rest)), covered(n, []int{0}, 2, most), over)
	}
}

// The Join of Meets by its size. Cover makes none.
func TestTheJoinGivesUp(t *testing.T) {
	for _, count := range []int{63, 64, 65} {
		n := plain(9, send(numbers(64, 6, "0", "xx"), 2), send(numbers(count-1, 6, "10", "x"), 2), send([]string{"111111111"}, 2), at(send([]string{x(9)}), 1))
		what := fmt.Sprint("64 and ", count, " cubes")
		checkOver(t, "P15.2: "+what, meets(n, 0, 3, 2, most), count > 64)
		for entry := range 3 {
			checkOver(t, "P15.2, others: "+what, meets(n, 0, entry, 2, most), false)
		}
		checkOver(t, "P15.2, not that far: "+what, meets(n, 0, 3, 1, most), false)
		checkOver(t, "P15.2, from there: "+what, meets(n, 1, 3, 2, most), false)
		checkOver(t, "P15.3: "+what, covered(n, []int{0, 1}, 2, most), false)
	}
}

// The Join is made meeting by meeting: what comes too late to cover the others does not help.
func TestTheJoinIsMadeInOrder(t *testing.T) {
	for _, count := range []int{64, 65} {
		for _, outs := range [][]int{{2, 3, 4}, {4, 2, 3}, {2, 4, 3}} {
			n := plain(9, send([]string{x(9)}, outs...), at(send([]string{x(9)}), 1))
			n.Ports[3].To = 1
			n.Ports, n.Guards = append(n.Ports, api.Port{Name: "R.e", To: 1}), append(n.Guards, nil)
			n.Guards[2], n.Guards[3] = permit(numbers(64, 6, "0", "xx")), permit(append(numbers(count-1, 6, "10", "x"), "111111111"))
			what := fmt.Sprint("64 and ", count, " cubes and all, in the order ", outs)
			checkOver(t, "P15.2: "+what, meets(n, 0, 1, 2, most), count > 64 && outs[2] == 4)
			checkOver(t, "P15.3: "+what, covered(n, []int{0}, 2, most), false)
		}
	}
}

// The Expand of the spaces that Dead looks at: those of entries that are not met, up to the first in-port where the hit is live.
func TestTheDeadGiveUp(t *testing.T) {
	for _, bits := range []int{14, 15} {
		one, two, three := corners(60, 12, 12, bits)
		all := []string{x(60)}
		over := bits > 14
		what := fmt.Sprint("P15.3: 12 * 12 * ", bits, " plain cubes")
		// Dear at 0.
		n := plain(60, send(one), send(two), send(three), send(all))
		checkOver(t, what, covered(n, nil, 2, most), over)
		checkOver(t, what, covered(n, []int{1}, 2, most), over)
		// Dear at 0, live at 1: the first is looked at first.
		n = plain(60, send(one), send(two), send(three), at(send(all), 0, 1))
		checkOver(t, what, covered(n, nil, 2, most), over)
		// It is met: no one looks.
		checkOver(t, what, covered(n, []int{1}, 1, most), false)
		// Live at 0, dear at 1.
		n = plain(60, at(send(one), 1), at(send(two), 1), at(send(three), 1), at(send(all), 0, 1))
		check(t, what, covered(n, nil, 2, most), "live 0 0:3 1:3 2:3 3:3")
		// Hidden at 0, dear at 1.
		n = plain(60, at(send(one), 1), at(send(two), 1), at(send(three), 1), send(all), at(send(all), 0, 1))
		checkOver(t, what, covered(n, nil, 2, most), over)
		// No cubes: neither is looked at.
		n.Tables[0][4].Cubes = nil
		check(t, what, covered(n, nil, 2, most), "live 0 0:3 1:3 2:3 3:3 4:1")
	}
}

// The first in-port may leave it nothing, and the second something, and the other way round.
func TestTheDeadAtSeveralPorts(t *testing.T) {
	all := []string{"xx"}
	for want, ins := range map[string][][]int{"live 0 0:3 1:3": {{0}, {1}}, "live 0 0:3 1:2": {{0, 1}}} {
		for _, ports := range ins {
			n := plain(2, at(send(all), ports...), at(send(all), 0, 1))
			check(t, fmt.Sprint("P15.3: hidden at ", ports), covered(n, nil, 2, most), want)
		}
	}
	n := plain(2, send([]string{"0x"}), send([]string{"1x"}), send(all))
	check(t, "P15.3: two hide it", covered(n, nil, 2, most), "live 0 0:3 1:3 2:2")
	n.Guards[0] = []api.Guard{{Permit: true, Cubes: []string{"0x"}}}
	check(t, "P15.3: a guard does", covered(n, nil, 2, most), "live 0 0:3 1:2 2:2")
}

// fan: boxes one behind the other, each of which sends all that comes out at so many out-ports to the next one; the last one has so many entries that drop, and no two that meet.
func fan(bits, entries int, outs ...int) api.Net {
	n := api.Net{Bits: bits}
	for box, count := range append(outs, 0) {
		in := len(n.Ports)
		n.Ports = append(n.Ports, api.Port{Name: fmt.Sprint("R", box, ".a"), Box: box, In: true, To: -1})
		e := api.Entry{Ins: []int{in}, Cubes: []string{x(bits)}, Write: x(bits)}
		for out := range count {
			n.Ports = append(n.Ports, api.Port{Name: fmt.Sprint("R", box, ".o", out), Box: box, To: in + count + 1})
			e.Outs = append(e.Outs, in+1+out)
		}
		n.Tables = append(n.Tables, []api.Entry{e})
	}
	last := len(outs)
	in := n.Tables[last][0].Ins
	n.Tables[last] = nil
	for _, cube := range numbers(entries, 8, x(bits-8), "") {
		n.Tables[last] = append(n.Tables[last], api.Entry{Ins: in, Cubes: []string{cube}, Write: x(bits)})
	}
	n.Guards = make([][]api.Guard, len(n.Ports))
	return n
}

// As many flows as may be, most of them with nearly as many meetings as may be: this ends soon.
func TestTheMostWork(t *testing.T) {
	n := fan(256, 251, 3, 4, 4, 4, 4)
	checkIsNet(t, n)
	c, errno := asking{n, []int{0}, api.MaxHops, most}.cover()
	if errno != api.OK || c.Live != 256 || len(c.Packets) != 251 || len(c.Dead) != 0 {
		t.Errorf("P15.3: %.300s", text(c, errno))
	}
	for at, p := range c.Packets {
		check(t, "P15.3", p.Header+fmt.Sprint(p.Hits), numbers(251, 256, "", "")[at]+fmt.Sprint([]int{0, 1, 2, 3, 4, 5 + at}))
	}
	check(t, "P15.2", meets(n, 0, 255, api.MaxHops, most), x(248)+"11111010")
	check(t, "P15.3", covered(n, []int{0}, api.MaxHops, most-1), "error 3")
}
