package xfer_test

// Where New, Gone, Forward and Inverse give up, and where they do not: at the last number that fits, and one beyond.

import (
	"fmt"
	"slices"
	"strings"
	"testing"

	"reach/api"
	"reach/xfer"
)

// numbers: the cubes of the numbers 0 .. count-1 of so many bits, with ahead ahead and behind behind: no two meet.
func numbers(count, bits int, ahead, behind string) []string {
	var list []string
	for n := range count {
		list = append(list, fmt.Sprintf("%s%0*b%s", ahead, bits, n, behind))
	}
	return list
}

// antichain: a guard that permits so many cubes of which no two meet, of at least 8 bits; at most 64 a line.
func antichain(bits, count int) []api.Guard {
	var lines []api.Guard
	for part := range slices.Chunk(numbers(count, 8, "", x(max(bits-8, 0))), api.MaxMatch) {
		lines = append(lines, api.Guard{Permit: true, Cubes: part})
	}
	return lines
}

// plain: one box with the in-ports 0 and 1 and the out-ports 2 and 3, without guards; the entries hold at 0 alone.
func plain(bits int, entries ...api.Entry) api.Net {
	n := api.Net{
		Bits:   bits,
		Ports:  []api.Port{{Name: "R.a", In: true, To: -1}, {Name: "R.b", In: true, To: -1}, {Name: "R.c", To: -1}, {Name: "R.d", To: -1}},
		Tables: [][]api.Entry{entries},
		Guards: make([][]api.Guard, 4),
	}
	for at := range entries {
		entries[at].Ins = []int{0}
	}
	return n
}

// send: an entry that writes nothing.
func send(cubes []string, outs ...int) api.Entry {
	return api.Entry{Cubes: cubes, Write: x(len(cubes[0])), Outs: outs}
}

func permit(cubes ...string) api.Guard { return api.Guard{Permit: true, Cubes: cubes} }

func deny(cubes ...string) api.Guard { return api.Guard{Cubes: cubes} }

func checkNew(t *testing.T, what string, n api.Net, want api.Errno) *xfer.Transfer {
	t.Helper()
	checkIsNet(t, n)
	f, errno := xfer.New(n)
	if errno != want || (f == nil) != (want != api.OK) {
		t.Fatalf("P11.1: %s: %d; want %d", what, errno, want)
	}
	return f
}

func budget(over bool) api.Errno {
	if over {
		return api.ErrBudget
	}
	return api.OK
}

// The guard of every port counts: of an in-port without an entry, of an out-port to which nothing is sent.
func TestGuardsThatAreTooGreat(t *testing.T) {
	for port := range 4 {
		for _, count := range []int{127, 128, 129, 256} {
			n := plain(9)
			n.Guards[port] = antichain(9, count)
			checkNew(t, fmt.Sprint("a guard of ", count, " cubes at ", port), n, budget(count > 128))
		}
		for _, less := range []int{62, 63, 64} {
			n := plain(9)
			n.Guards[port] = []api.Guard{deny(numbers(less, 6, "", "xx0")...), permit("xxxxxx0xx", "xxxxxx1xx")}
			checkNew(t, fmt.Sprint("a guard of 2 cubes less ", less, " at ", port), n, budget(less > 63))
		}
	}
}

// each: the list with one more cube, at its beginning, in its middle and at its end.
func each(list []string, more string) [][]string {
	var lists [][]string
	for _, at := range []int{0, len(list) / 2, len(list)} {
		lists = append(lists, slices.Insert(slices.Clone(list), at, more))
	}
	return lists
}

// Only the whole form counts: 63 cubes less 5 each are more than MaxCubes, and so is each half of them, but one more cube covers them all.
func TestPartsOnTheWayAreNoMatter(t *testing.T) {
	ahead := numbers(5, 3, x(7), "")
	many := numbers(63, 6, "", "xxxx")
	want := "xxxxxxxxxx-" + strings.Join(ahead, "-")
	checkNew(t, "63 cubes less 5", plain(10, send(ahead), send(many)), api.ErrBudget)
	for _, cubes := range each(many, x(10)) {
		f := checkNew(t, "an entry of 64 cubes", plain(10, send(ahead), send(cubes)), api.OK)
		checkCalls(t, [][3]string{{"P11.2: an entry of 64 cubes", hits(f, 0), "0 0 -1 -1 xxxxxxxxxx " + strings.Join(ahead, "+") + "; 0 1 -1 -1 xxxxxxxxxx " + want}})
		n := plain(10, send([]string{x(10)}))
		n.Guards[0] = []api.Guard{deny(ahead...), permit(cubes...)}
		f = checkNew(t, "a line of 64 cubes", n, api.OK)
		checkCalls(t, [][3]string{{"P11.2: a line of 64 cubes", hits(f, 0), "0 0 -1 -1 xxxxxxxxxx " + want}})
	}
	n := plain(10)
	n.Guards[2] = []api.Guard{deny(ahead...), permit(many...)}
	checkNew(t, "a line of 63 cubes less 5", n, api.ErrBudget)
	// 21 cubes less 5 are 126; the others are the same ones again, or within them.
	again := slices.Concat(numbers(21, 5, "", "xxxxx"), numbers(21, 5, "", "0xxxx"), numbers(21, 5, "", "xxxxx"))
	checkNew(t, "21 cubes, and 42 within them", plain(10, send(ahead), send(again)), api.OK)
	slices.Reverse(again)
	checkNew(t, "42 cubes within the others", plain(10, send(ahead), send(again[10:])), api.OK)
}

// What is void counts nothing, however many cubes stand ahead of it.
func TestVoidTermsAreNoMatter(t *testing.T) {
	first, second := numbers(64, 6, "0", "xx"), numbers(64, 6, "1", "xx")
	f := checkNew(t, "an entry behind its own cube", plain(9, send(first), send(second), send(first[:9]), send(slices.Concat(first[3:9], second[60:]))), api.OK)
	if l, _ := f.Hits(0); l[2].Space.Text() != "none" || l[3].Space.Text() != "none" {
		t.Errorf("P11.2: %s", partsText(l[2:]))
	}
	checkNew(t, "an entry behind all of them", plain(9, send(first), send(second), send([]string{x(9)})), api.ErrBudget)
	n := plain(9)
	n.Guards[0] = []api.Guard{deny(first...), deny(second...), permit(first[:9]...)}
	f = checkNew(t, "a line behind its own cube", n, api.OK)
	checkCalls(t, [][3]string{{"P11.4: a line behind its own cube", gone(f, 0), x(9)}})
	n.Guards[0] = append(n.Guards[0], permit(x(9)))
	checkNew(t, "a line behind all of them", n, api.ErrBudget)
}

func TestEntriesThatAreTooGreat(t *testing.T) {
	for _, less := range []int{62, 63, 64} {
		table := []api.Entry{send(numbers(less, 6, "", "xx0"), 2), send([]string{"xxxxxx0xx", "xxxxxx1xx"})}
		n := plain(9, table...)
		checkNew(t, fmt.Sprint("2 cubes less ", less), n, budget(less > 63))
		n.Tables[0][0].Ins = []int{1}
		checkNew(t, "the entry ahead holds at another port", n, api.OK)
		n.Tables[0][0].Ins, n.Tables[0][1].Ins = []int{0, 1}, nil
		checkNew(t, "the entry holds nowhere", n, api.OK)
		n.Tables[0][1].Ins = []int{1}
		checkNew(t, "at the other port", n, budget(less > 63))
	}
}

// H by its size, and by the raw terms on its way.
func TestHitsThatAreTooGreat(t *testing.T) {
	for _, count := range []int{15, 16, 17} {
		n := plain(9, send(numbers(8, 3, x(6), "")))
		n.Guards[0] = []api.Guard{permit(numbers(count, 6, "", "xxx")...)}
		checkNew(t, fmt.Sprint("8 cubes behind a guard of ", count), n, budget(count > 16))
		n.Guards[0], n.Guards[1] = nil, n.Guards[0]
		checkNew(t, "a guard of another port", n, api.OK)
	}
	for _, count := range []int{31, 32, 33} {
		n := plain(9, send(numbers(64, 6, "", "xxx")))
		n.Guards[0] = []api.Guard{permit(numbers(count, 6, "", "xxx")...)}
		checkNew(t, fmt.Sprint("64 cubes met with ", count), n, budget(count > 32))
	}
}

// F by its size, and by the raw terms on its way.
func TestPartsThatAreTooGreat(t *testing.T) {
	for _, count := range []int{15, 16, 17} {
		n := plain(9, send(numbers(8, 3, x(6), ""), 2))
		n.Guards[2] = []api.Guard{permit(numbers(count, 6, "", "xxx")...)}
		checkNew(t, fmt.Sprint("8 cubes at a guard of ", count), n, budget(count > 16))
		n.Guards[2], n.Guards[3] = nil, n.Guards[2]
		checkNew(t, "a guard of another port", n, api.OK)
		n.Tables[0][0].Outs = []int{2, 3}
		checkNew(t, "a guard of the second port", n, budget(count > 16))
		n.Tables[0][0].Write = "000000xxx"
		f := checkNew(t, "all are written into one of the guard's", n, api.OK)
		if l, _ := f.Parts(0); l[0].Space.Text() != l[1].Space.Text() || l[1].Space.Size() != 8 {
			t.Errorf("P11.3: all are written into one of the guard's: %s", partsText(l))
		}
	}
	for _, count := range []int{31, 32, 33} {
		n := plain(9, send(numbers(64, 6, "", "xxx"), 3))
		n.Guards[3] = []api.Guard{permit(numbers(count, 6, "", "xxx")...)}
		checkNew(t, fmt.Sprint("64 cubes met at the out-port with ", count), n, budget(count > 32))
	}
}

func checkGone(t *testing.T, what string, n api.Net, size int, over bool) {
	t.Helper()
	d, errno := checkNew(t, what, n, api.OK).Gone(0)
	if over {
		size = 0
	}
	if errno != budget(over) || d.Size() != size || (d.Bits() == 0) != over {
		t.Errorf("P11.4: %s: Gone is %.300q, of size %d, %d; want the size %d, %d", what, d.Text(), d.Size(), errno, size, budget(over))
	}
}

// N counts, whatever the guard leaves of it.
func TestGoneWithTooManyCubesOfTheTable(t *testing.T) {
	for _, count := range []int{126, 127, 128} {
		cubes := numbers(count, 8, "", "x")
		n := plain(9, send(cubes[:64], 2), send(cubes[64:], 3))
		checkGone(t, fmt.Sprint(count, " cubes in the table"), n, 1+count, count > 127)
		n.Guards[0] = []api.Guard{deny(x(9))}
		checkGone(t, fmt.Sprint("nothing comes by, ", count), n, 1, count > 127)
		n.Tables[0] = append(n.Tables[0], api.Entry{Ins: []int{1}, Cubes: []string{x(9)}, Write: x(9)})
		checkGone(t, fmt.Sprint("one more at another port, ", count), n, 1, count > 127)
	}
	// What is within another cube, or twice there, is not counted.
	twice := numbers(64, 7, "", "xx")
	checkGone(t, "the same cubes again", plain(9, send(twice, 2), send(numbers(64, 7, "", "0x"), 2), send(twice, 3), send(numbers(63, 7, "", "1x"), 2)), 65, false)
}

// The steps of D: all Minus G; the Join of U; H Minus U; the Join of D.
func TestGoneGivesUpOnItsWay(t *testing.T) {
	for _, count := range []int{126, 127, 128} {
		n := plain(9, send([]string{x(9)}, 2))
		n.Guards[0] = antichain(9, count)
		checkGone(t, fmt.Sprint("all less a guard of ", count), n, 1+count, count > 127)
	}
	for _, count := range []int{63, 64, 65} {
		n := plain(9, send([]string{"1xxxxxxxx"}, 2, 3))
		n.Guards[2] = []api.Guard{permit(numbers(64, 7, "0", "x")...)}
		n.Guards[3] = antichain(9, 64+count)[1:]
		checkGone(t, fmt.Sprint("two out-ports with 64 and ", count), n, 3, count > 64)
		n.Tables[0][0].Write = "1xxxxxxxx"
		// The last of 65 begins with a 1.
		checkGone(t, fmt.Sprint("what is written meets one of them or none, ", count), n, 3+count/65, false)
	}
	for _, count := range []int{30, 31, 32} {
		n := plain(9, send(numbers(64, 6, "", "xxx"), 2))
		n.Guards[2] = []api.Guard{deny(numbers(count, 6, "", "xxx")...), permit(x(9))}
		// N is all less 64 cubes; what is denied is lost.
		checkGone(t, fmt.Sprint("64 cubes less one less ", count), n, 65+count, count > 31)
	}
	for _, count := range []int{14, 15, 16} {
		n := plain(9, send([]string{"xxxxxxx00", "xxxxxxx11"}, 2), send(numbers(16, 6, "0", "xx")), send(numbers(count, 6, "1", "xx")))
		checkGone(t, fmt.Sprint(16+count, " cubes less 2 are lost"), n, 3+4*(16+count), count > 15)
	}
}

// splits: all less three cubes of a, b and c bits that no two of them share: it has a * b * c plain cubes.
func splits(bits, a, b, c int) string {
	rest := bits - a - b - c
	ones := func(n int) string { return strings.Repeat("1", n) }
	return strings.Join([]string{x(bits), ones(a) + x(b+c+rest), x(a) + ones(b) + x(c+rest), x(a+b) + ones(c) + x(rest)}, "-")
}

func checkImages(t *testing.T, what string, list []xfer.Image, errno api.Errno, size int, over bool) {
	t.Helper()
	if over && (errno != api.ErrBudget || list != nil) {
		t.Errorf("%s: %.300s, %d; want ErrBudget", what, imagesText(list), errno)
	}
	if !over && (errno != api.OK || len(list) != 1 || list[0].Space.Size() != size) {
		t.Errorf("%s: %.300s, %d; want one of the size %d", what, imagesText(list), errno, size)
	}
}

func TestForwardGivesUp(t *testing.T) {
	f := made(t, plain(9, send(numbers(64, 6, "", "xxx"), 2)))
	for _, count := range []int{31, 32, 33} {
		list, errno := f.Forward(0, read(t, 9, strings.Join(numbers(count, 6, "", "xxx"), "+")))
		checkImages(t, "P11.5: Meet by its raw terms", list, errno, count, count > 32)
	}
	f = made(t, plain(9, send(numbers(8, 3, x(6), ""), 2)))
	for _, count := range []int{15, 16, 17} {
		list, errno := f.Forward(0, read(t, 9, strings.Join(numbers(count, 6, "", "xxx"), "+")))
		checkImages(t, "P11.5: Meet by its size", list, errno, 8*count, count > 16)
	}
	still := made(t, plain(150, send([]string{x(150)}, 2)))
	into := plain(150, send([]string{x(150)}, 2))
	into.Tables[0][0].Write = strings.Repeat("0", 150)
	over := made(t, into)
	for _, ones := range []int{127, 128, 129} {
		s := read(t, 150, x(150)+"-"+strings.Repeat("1", ones)+x(150-ones))
		list, errno := still.Forward(0, s)
		checkImages(t, "P11.5: After by its size", list, errno, ones, ones > 128)
		list, errno = over.Forward(0, s)
		checkImages(t, "P11.5: After with all written over", list, errno, 1, false)
	}
	for _, bits := range []int{13, 14, 15} {
		list, errno := over.Forward(0, read(t, 150, splits(150, 12, 12, bits)))
		checkImages(t, "P11.5: Expand", list, errno, 1, bits > 14)
	}
}

func TestInverseGivesUp(t *testing.T) {
	f := made(t, plain(9, send(numbers(64, 6, "", "xxx"), 2)))
	for _, count := range []int{31, 32, 33} {
		list, errno := f.Inverse(2, read(t, 9, strings.Join(numbers(count, 6, "", "xxx"), "+")))
		checkImages(t, "P11.6: Meet by its raw terms", list, errno, count, count > 32)
	}
	f = made(t, plain(9, send(numbers(8, 3, x(6), ""), 2)))
	for _, count := range []int{15, 16, 17} {
		list, errno := f.Inverse(2, read(t, 9, strings.Join(numbers(count, 6, "", "xxx"), "+")))
		checkImages(t, "P11.6: Meet by its size", list, errno, 8*count, count > 16)
	}
	still := made(t, plain(60, send([]string{x(60)}, 2)))
	into := plain(60, send([]string{x(60)}, 2))
	into.Tables[0][0].Write = strings.Repeat("0", 60)
	over := made(t, into)
	for _, bits := range []int{13, 14, 15} {
		s := read(t, 60, splits(60, 12, 12, bits))
		list, errno := still.Inverse(2, s)
		checkImages(t, "P11.6: Expand", list, errno, 4, bits > 14)
		list, errno = over.Inverse(2, s)
		checkImages(t, "P11.6: all is written into it", list, errno, 1, false)
	}
	// Another out-port's parts are not asked.
	if list, errno := still.Inverse(3, read(t, 60, splits(60, 12, 12, 15))); len(list) != 0 || errno != api.OK {
		t.Errorf("P11.6: nothing is sent there: %s, %d", imagesText(list), errno)
	}
}

// A space of terms without a header is no image; one that cannot be split within the limit is refused, though it has no header.
func TestSpacesWithoutAHeader(t *testing.T) {
	f := made(t, plain(60, send([]string{x(60)}, 2)))
	none := read(t, 60, x(60)+"-0"+x(59)+"-1"+x(59))
	checkCalls(t, [][3]string{{"P11.5: no header", forward(f, 0, none), ""}, {"P11.6: no header", inverse(f, 2, none), ""}})
	dear := read(t, 60, splits(60, 12, 12, 15)+"-"+x(59)+"0-"+x(59)+"1")
	checkCalls(t, [][3]string{{"P11.5: dear", forward(f, 0, dear), errBudget}, {"P11.6: dear", inverse(f, 2, dear), errBudget}})
}

// Of the in-ports one alone is refused, whichever it is.
func TestOneInPortThatIsRefused(t *testing.T) {
	for bad := range 24 {
		n := api.Net{Bits: 9, Tables: [][]api.Entry{nil}, Guards: make([][]api.Guard, 24)}
		for port := range 24 {
			n.Ports = append(n.Ports, api.Port{Name: fmt.Sprint("R.p", port), In: true, To: -1})
		}
		n.Tables[0] = []api.Entry{send(numbers(64, 6, "", "xx0")), send([]string{"xxxxxx0xx", "xxxxxx1xx"})}
		n.Tables[0][0].Ins, n.Tables[0][1].Ins = []int{bad}, []int{bad}
		checkNew(t, fmt.Sprint("the in-port ", bad), n, api.ErrBudget)
	}
}
