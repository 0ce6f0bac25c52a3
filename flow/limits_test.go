package flow_test

// Where New and At give up, and where they do not: at the last number that fits, and one beyond.

import (
	"fmt"
	"slices"
	"strings"
	"testing"

	"reach/api"
	"reach/flow"
)

// numbers: the cubes of the numbers 0 .. count-1 of so many bits, with ahead ahead and behind behind: no two meet.
func numbers(count, bits int, ahead, behind string) []string {
	var list []string
	for n := range count {
		list = append(list, fmt.Sprintf("%s%0*b%s", ahead, bits, n, behind))
	}
	return list
}

// antichain: a guard that permits so many cubes of which no two meet, of at least 8 bits; at most 64 a line.
func antichain(bits, count int) []api.Guard {
	var lines []api.Guard
	for part := range slices.Chunk(numbers(count, 8, "", x(max(bits-8, 0))), api.MaxMatch) {
		lines = append(lines, api.Guard{Permit: true, Cubes: part})
	}
	return lines
}

// plain: one box with the in-ports 0 and 1 and the out-ports 2 (linked to 1) and 3, without guards. The first entries hold at 0, those from the one with Ins on where they say.
func plain(bits int, entries ...api.Entry) api.Net {
	n := api.Net{
		Bits:   bits,
		Ports:  []api.Port{{Name: "R.a", In: true, To: -1}, {Name: "R.b", In: true, To: -1}, {Name: "R.c", To: 1}, {Name: "R.d", To: -1}},
		Tables: [][]api.Entry{entries},
		Guards: make([][]api.Guard, 4),
	}
	for at := range entries {
		if entries[at].Ins == nil {
			entries[at].Ins = []int{0}
		}
	}
	return n
}

// send: an entry that writes nothing.
func send(cubes []string, outs ...int) api.Entry {
	return api.Entry{Cubes: cubes, Write: x(len(cubes[0])), Outs: outs}
}

// sum: a space's text of these cubes.
func sum(cubes []string) string { return strings.Join(cubes, "+") }

func errnoOf(over bool) api.Errno {
	if over {
		return api.ErrBudget
	}
	return api.OK
}

func checkNew(t *testing.T, what string, n api.Net, start int, from string, hops int, want api.Errno) *flow.Walk {
	t.Helper()
	checkIsNet(t, n)
	var w *flow.Walk
	for _, stop := range []bool{true, false} {
		var errno api.Errno
		w, errno = flow.New(n, start, from, hops, api.MaxBudget, stop)
		if errno != want || (w == nil) != (want != api.OK) {
			t.Fatalf("P12.1: %s: %d; want %d", what, errno, want)
		}
	}
	return w
}

// What xfer refuses is refused, wherever it is in the network, and also where no entry would be applied.
func TestWhatXferRefuses(t *testing.T) {
	for port := range 4 {
		for _, count := range []int{128, 129} {
			n := plain(9, send([]string{x(9)}, 2))
			n.Guards[port] = antichain(9, count)
			for start := range 4 {
				what := fmt.Sprint("a guard of ", count, " cubes at ", port, ", from ", start)
				checkNew(t, what, n, start, x(9), 0, errnoOf(count > 128))
				checkNew(t, what, n, start, "none", 5, errnoOf(count > 128))
				checkNew(t, what, n, start, "none", 0, errnoOf(count > 128))
			}
		}
	}
	for _, less := range []int{63, 64} {
		n := plain(9, send(numbers(less, 6, "", "xx0")), send([]string{"xxxxxx0xx", "xxxxxx1xx"}))
		checkNew(t, fmt.Sprint("an entry of 2 cubes less ", less), n, 3, x(9), 0, errnoOf(less > 63))
	}
}

// Meet by its raw terms.
func TestMeetsOfTooManyTerms(t *testing.T) {
	n := plain(9, send(numbers(64, 6, "", "xxx"), 2))
	for _, count := range []int{31, 32, 33} {
		from := sum(numbers(count, 6, "", "xxx"))
		checkNew(t, "without an entry", n, 0, from, 0, api.OK)
		w := checkNew(t, fmt.Sprint("64 terms met with ", count), n, 0, from, 1, errnoOf(count > 32))
		if count <= 32 && w.Size() != 2*count {
			t.Errorf("P12.3: %d, want %d", w.Size(), 2*count)
		}
		// Though nothing goes on by it, the Meet is refused.
		far := plain(9, send(numbers(64, 6, "111", ""), 2))
		checkNew(t, fmt.Sprint("64 terms met with ", count, " apart"), far, 0, from, 1, errnoOf(count > 32))
	}
}

// Meet by its size.
func TestMeetsThatAreTooGreat(t *testing.T) {
	n := plain(9, send(numbers(8, 3, x(6), ""), 2))
	for _, count := range []int{15, 16, 17} {
		w := checkNew(t, fmt.Sprint("8 terms met with ", count), n, 0, sum(numbers(count, 6, "", "xxx")), 1, errnoOf(count > 16))
		if count <= 16 && w.Size() != 9*count {
			t.Errorf("P12.3: %d, want %d", w.Size(), 9*count)
		}
	}
	// What is written ahead of it may leave less to be met: all are in one term then.
	n = plain(9, api.Entry{Cubes: []string{x(9)}, Write: "xxxxxx000", Outs: []int{2}}, api.Entry{Ins: []int{1}, Cubes: numbers(8, 3, x(6), ""), Write: x(9), Outs: []int{3}})
	for _, count := range []int{16, 17, 64, 128} {
		w := checkNew(t, "8 terms that are written into one", n, 0, sum(numbers(count, 8, "", "x")), 2, api.OK)
		if w.Size() != 3*count {
			t.Errorf("P12.3: %d, want %d", w.Size(), 3*count)
		}
	}
}

// splits: all less three cubes of a, b and c bits that no two of them share: it has a * b * c plain cubes.
func splits(bits, a, b, c int) string {
	rest := bits - a - b - c
	ones := func(n int) string { return strings.Repeat("1", n) }
	return strings.Join([]string{x(bits), ones(a) + x(b+c+rest), x(a) + ones(b) + x(c+rest), x(a+b) + ones(c) + x(rest)}, "-")
}

// Expand of the first flow, whatever is asked for behind it.
func TestFirstFlowsThatCannotBeSplit(t *testing.T) {
	n := plain(60, send([]string{x(60)}, 2))
	for _, bits := range []int{14, 15} {
		for start := range 4 {
			w := checkNew(t, fmt.Sprint("12 * 12 * ", bits, " plain cubes"), n, start, splits(60, 12, 12, bits), 0, errnoOf(bits > 14))
			if bits == 14 && w.Size() != 4 {
				t.Errorf("P12.3: %d", w.Size())
			}
		}
	}
	// Just as many as may be, and one more.
	last := splits(60, 16, 16, 8)
	checkNew(t, "16 * 16 * 8 plain cubes", n, 0, last, 3, api.OK)
	checkNew(t, "16 * 16 * 8 plain cubes and one", n, 0, last+"+"+strings.Repeat("1", 60), 0, api.ErrBudget)
	// It has no header, and yet it cannot be split.
	none := splits(60, 12, 12, 15) + "-" + x(59) + "0-" + x(59) + "1"
	checkNew(t, "dear, without a header", n, 0, none, 0, api.ErrBudget)
	// The cheap one is no flow, and all is well.
	w := checkNew(t, "cheap, without a header", n, 0, x(60)+"-"+x(59)+"0-"+x(59)+"1", 9, api.OK)
	checkWalk(t, "cheap, without a header", w, 0)
}

// Expand of a flow that goes on; also of one that is not live.
func TestNextFlowsThatCannotBeSplit(t *testing.T) {
	cubes := strings.Split(splits(60, 12, 12, 1), "-")
	for _, bits := range []int{14, 15} {
		from := x(60) + "-" + x(24) + strings.Repeat("1", bits) + x(36-bits)
		n := plain(60, send(cubes[1:3]), send([]string{x(60)}, 3))
		what := fmt.Sprint("12 * 12 * ", bits, " plain cubes behind an entry")
		checkNew(t, what, n, 0, from, 0, api.OK)
		w := checkNew(t, what, n, 0, from, 1, errnoOf(bits > 14))
		if bits == 14 && w.Size() != 2+4 {
			t.Errorf("P12.3: %s: %d", what, w.Size())
		}
		// What is left has no header: the last two cubes take all away.
		n = plain(60, send(append(slices.Clone(cubes[1:3]), x(59)+"0", x(59)+"1")), send([]string{x(60)}, 3))
		w = checkNew(t, what+", without a header", n, 0, from, 1, errnoOf(bits > 14))
		if bits == 14 && w.Size() != 2 {
			t.Errorf("P12.3: %s, without a header: %d", what, w.Size())
		}
	}
}

// chain: as many boxes as fit, one behind the other, each of one entry that sends all on; the last one back to the first.
func chain(boxes int) api.Net {
	n := api.Net{Bits: 2}
	for b := range boxes {
		n.Ports = append(n.Ports, api.Port{Name: fmt.Sprint("R", b, ".a"), Box: b, In: true, To: -1}, api.Port{Name: fmt.Sprint("R", b, ".b"), Box: b, To: 2 * ((b + 1) % boxes)})
		n.Tables = append(n.Tables, []api.Entry{{Ins: []int{2 * b}, Cubes: []string{"1x"}, Write: "x0", Outs: []int{2*b + 1}}})
	}
	n.Guards = make([][]api.Guard, len(n.Ports))
	return n
}

// P0.3 (a): one entry a table, one out-port each: a budget of hops + 1 is enough, and where the packets go round it is needed.
func TestAChainNeedsOneForEachHop(t *testing.T) {
	for _, boxes := range []int{1, 2, 3, 16} {
		n := chain(boxes)
		for hops := range api.MaxHops + 1 {
			w := walked(t, n, 0, "1x", hops, hops+1, false)
			if w.Size() != hops+1 {
				t.Fatalf("P12.3: %d boxes, %d hops: %d", boxes, hops, w.Size())
			}
			if hops > 0 {
				checkRefusedOnce(t, n, "1x", hops, hops, false)
			}
			round := walked(t, n, 0, "1x", hops, min(hops, boxes)+1, true)
			if round.Size() != min(hops, boxes)+1 {
				t.Fatalf("P12.3: %d boxes, %d hops, to stop: %d", boxes, hops, round.Size())
			}
		}
	}
}

func checkRefusedOnce(t *testing.T, n api.Net, from string, hops, budget int, stop bool) {
	t.Helper()
	if w, errno := flow.New(n, 0, from, hops, budget, stop); w != nil || errno != api.ErrBudget {
		t.Fatalf("P12.1: %d hops with a budget of %d: %d", hops, budget, errno)
	}
}

// fan: one box whose four out-ports are linked to its one in-port: 4 to the power of k flows of k entries.
func fan() api.Net {
	n := api.Net{Bits: 1, Ports: []api.Port{{Name: "R.a", In: true, To: -1}}, Guards: make([][]api.Guard, 5)}
	for at := range 4 {
		n.Ports = append(n.Ports, api.Port{Name: fmt.Sprint("R.b", at), To: 0})
	}
	n.Tables = [][]api.Entry{{{Ins: []int{0}, Cubes: []string{"x"}, Write: "x", Outs: []int{4, 2, 1, 3}}}}
	return n
}

// However many there would be, New ends soon: no more is made than the budget has room for.
func TestAFanIsGivenUp(t *testing.T) {
	n := fan()
	for hops, flows := range []int{1, 5, 21, 85, 341} {
		if w := walked(t, n, 0, "x", hops, flows, false); w.Size() != flows {
			t.Errorf("P12.3: %d hops: %d", hops, w.Size())
		}
		if flows > 1 {
			checkRefusedOnce(t, n, "x", hops, flows-1, false)
		}
	}
	checkRefusedOnce(t, n, "x", 5, api.MaxBudget, false)
	checkRefusedOnce(t, n, "x", api.MaxHops, api.MaxBudget, false)
	if w := walked(t, n, 0, "x", api.MaxHops, 5, true); w.Size() != 5 {
		t.Errorf("P12.3: to stop: %d", w.Size())
	}
}

// P12.4: the Join by its size; what other flows bring to other ports counts nothing.
func TestAtGivesUp(t *testing.T) {
	for _, count := range []int{63, 64, 65} {
		n := plain(9, send(numbers(64, 6, "0", "xx"), 3), send(numbers(count-2, 6, "10", "x"), 3), send([]string{"111111110", "111111111"}, 2, 3))
		w := checkNew(t, fmt.Sprint("64 and ", count), n, 0, x(9), 1, api.OK)
		text, errno := w.At(3)
		if errno != errnoOf(count > 64) || (text == "") != (errno != api.OK) {
			t.Errorf("P12.4: 64 and %d cubes: %.60q, %d", count, text, errno)
		}
		if text, errno := w.At(2); text != "111111110+111111111" || errno != api.OK {
			t.Errorf("P12.4: At(2) = %q, %d", text, errno)
		}
		if text, errno := w.At(0); text != x(9) || errno != api.OK {
			t.Errorf("P12.4: At(0) = %q, %d", text, errno)
		}
	}
}

// P12.4: in the order of the flows: what a later flow would cover counts until then.
func TestAtJoinsInOrder(t *testing.T) {
	all := api.Entry{Ins: []int{1}, Cubes: []string{x(9)}, Write: x(9), Outs: []int{3}}
	for _, count := range []int{64, 65} {
		n := plain(9, send(numbers(64, 6, "0", "xx"), 3), send(numbers(count-1, 6, "10", "x"), 3), send([]string{"111111111"}, 3), all)
		w := checkNew(t, "to one port", n, 0, x(9), 2, api.OK)
		if _, errno := w.At(3); errno != errnoOf(count > 64) {
			t.Errorf("P12.4: 64 and %d cubes: %d", count, errno)
		}
	}
	// The first flow comes to the port with all headers: it covers whatever comes there again.
	n := fan()
	for port, want := range []string{"x", "x", "x", "x", "x"} {
		if text, errno := walked(t, n, 0, "x", 4, 341, false).At(port); text != want || errno != api.OK {
			t.Errorf("P12.4: At(%d) = %q, %d", port, text, errno)
		}
	}
}
