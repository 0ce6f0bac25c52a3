package lower_test

import (
	"fmt"
	"strings"
	"testing"

	"reach/api"
	"reach/lower"
	"reach/model"
)

// checkAll: every call on a network against the second telling; P9.4 too.
func checkAll(t *testing.T, c api.Config) api.Errno {
	t.Helper()
	what := fmt.Sprintf("%+v", c)
	want, errno := tellLower(c)
	checkLower(t, what, c, want, errno)
	for box := -1; box <= len(c.Boxes); box++ {
		table, errno := tellTable(c, box)
		checkTable(t, what, c, box, table, errno)
	}
	ports, _ := model.Ports(c)
	for port := -1; port <= len(ports); port++ {
		guard, errno := tellGuard(c, port)
		checkGuard(t, what, c, port, guard, errno)
	}
	if errno == api.OK {
		n, _ := lower.Lower(c)
		checkParts(t, what, c, n)
	}
	return errno
}

// checkParts: P9.4.
func checkParts(t *testing.T, what string, c api.Config, n api.Net) {
	t.Helper()
	if len(n.Tables) != len(c.Boxes) || len(n.Guards) != len(n.Ports) {
		t.Fatalf("P9.1: %d tables, %d guards of %d ports: %.2000s", len(n.Tables), len(n.Guards), len(n.Ports), what)
	}
	for box := range n.Tables {
		if table, errno := lower.Table(c, box); errno != api.OK || !equal(table, n.Tables[box]) {
			t.Fatalf("P9.4: Table %d of %.2000s: %v, %d; Lower has %v", box, what, table, errno, n.Tables[box])
		}
	}
	for port := range n.Ports {
		if guard, errno := lower.Guard(c, port); errno != api.OK || !equal(guard, n.Guards[port]) {
			t.Fatalf("P9.4: Guard %d of %.2000s: %v, %d; Lower has %v", port, what, guard, errno, n.Guards[port])
		}
	}
	if errno := lower.Valid(n); errno != api.OK {
		t.Fatalf("P9.4: Valid of Lower of %.2000s: %d", what, errno)
	}
}

func TestMixedNetworks(t *testing.T) {
	s := source(91)
	codes := map[api.Errno]int{}
	for range 140 {
		codes[checkAll(t, s.small())]++
	}
	for range 30 {
		codes[checkAll(t, s.great())]++
	}
	if codes[api.OK] < 100 || codes[api.ErrBudget] < 5 {
		t.Errorf("few networks of a kind: %v", codes)
	}
}

// A network without anything but a header, and such with empty boxes.
func TestNetworksWithoutEntries(t *testing.T) {
	for _, text := range []string{"header a:1", "header a:1\nrouting a slim", "header a:8 b:32\nbox A\nbox B", "header a:8\nbox A\nin i\nbox B\nout o\nlink B.o -> A.i"} {
		if errno := checkAll(t, parsed(t, text)); errno != api.OK {
			t.Errorf("P9.1: %q: %d", text, errno)
		}
	}
}

// An entry's Ins rise, whatever the order of From; its Outs stand as in To; an empty From is every in-port, of a box without in-ports none.
func TestEndsOfEntries(t *testing.T) {
	c := parsed(t, "header a:2\nrouting a\nbox Z\nin i\nout o\nbox A\nin p q r\nout s t u v w\nrule 1 from r p match any to v, s, t, w\nrule 2 from q match any to u\nrule 3 match any drop\nown 0/0 to w\nbox E\nout o\nrule 1 match any to o\nroute 2/1 to o")
	// The ports: Z.i 0, Z.o 1, A.p 2, A.q 3, A.r 4, A.s 5, A.t 6, A.u 7, A.v 8, A.w 9, E.o 10.
	entry := func(name, cube string, ins, outs []int) api.Entry {
		return api.Entry{Name: name, Ins: ins, Cubes: []string{cube}, Write: "xx", Outs: outs}
	}
	checkTable(t, "Z", c, 0, nil, api.OK)
	checkTable(t, "A", c, 1, []api.Entry{
		entry("A rule 3", "xx", []int{2, 3, 4}, nil), entry("A rule 2", "xx", []int{3}, []int{7}),
		entry("A rule 1", "xx", []int{2, 4}, []int{8, 5, 6, 9}), entry("A own 0.0.0.0/0", "xx", []int{2, 3, 4}, []int{9}),
	}, api.OK)
	checkTable(t, "E", c, 2, []api.Entry{entry("E rule 1", "xx", nil, []int{10}), entry("E route 0.0.0.2/1", "1x", nil, []int{10})}, api.OK)
}

// Numbers in names: the priority in decimal digits, a prefix always as a dotted quad.
func TestNamesOfEntries(t *testing.T) {
	c := parsed(t, "header a:32 b:1\nrouting a\nbox R_1\nin i\nout o\nrule 0 match any drop\nrule 65535 match any drop\nrule 256 match any drop\nown 255.254.253.252/32 to o\nown 10.0.0.0/8 to o\nroute 0.1.0.0/16 to o\nroute 0/0 to o\nroute 128.0.0.0/1 to o\nbox R2\nout p\nlink R2.p -> R_1.i")
	for box, want := range []string{
		"R_1 rule 65535, R_1 rule 256, R_1 rule 0, R_1 own 255.254.253.252/32, R_1 route 0.1.0.0/16, R_1 own 10.0.0.0/8, R_1 route 128.0.0.0/1, R_1 route 0.0.0.0/0",
		"R2 way 255.254.253.252/32, R2 way 10.0.0.0/8",
	} {
		table, errno := lower.Table(c, box)
		var names []string
		for _, e := range table {
			names = append(names, e.Name)
		}
		if got := strings.Join(names, ", "); errno != api.OK || got != want {
			t.Errorf("P9.2: the entries of box %d: %s, %d; want %s", box, got, errno, want)
		}
	}
}

// A port's guard are the lines of its own box that name it, an out-port's too; boxes and ports may have one another's names.
func TestGuardsOfPorts(t *testing.T) {
	c := parsed(t, "header a:2\nbox A\nin a b\nout c\nguard b deny a = 1\nguard a permit a = 2\nguard c permit any\nguard b permit none\nguard b permit a != 3\nbox B\nin a b\nout A\nguard A deny a < 2")
	line := func(permit bool, cubes ...string) api.Guard { return api.Guard{Permit: permit, Cubes: cubes} }
	for port, want := range [][]api.Guard{
		{line(true, "10")}, {line(false, "01"), line(true), line(true, "0x", "10")}, {line(true, "xx")},
		nil, nil, {line(false, "0x")},
	} {
		checkGuard(t, "two boxes", c, port, want, api.OK)
	}
}

// What is not well-formed is told ahead of a wrong number, a wrong number ahead of a budget.
func TestErrorsInTheirOrder(t *testing.T) {
	wide := "rule 1 match a != 1 & b != 1 drop\nguard i permit a != 1 & b != 1\n"
	good := parsed(t, "header a:32 b:8\nbox B\nin i\nout o\n"+wide)
	for _, x := range []struct {
		of    string
		do    func(c *api.Config)
		errno api.Errno
	}{
		{"nothing at all", func(c *api.Config) { *c = api.Config{} }, api.ErrLayout},
		{"a routing that is no field", func(c *api.Config) { c.Routing = "z" }, api.ErrUnknown},
		{"too many boxes", func(c *api.Config) { c.Boxes = make([]api.Box, 17) }, api.ErrCount},
		{"a second box of one name", func(c *api.Config) { c.Boxes = append(c.Boxes, c.Boxes[0]) }, api.ErrDouble},
		{"a name that is none", func(c *api.Config) { c.Boxes[0].Name = "" }, api.ErrName},
		{"a priority twice", func(c *api.Config) { c.Boxes[0].Rules = append(c.Boxes[0].Rules, c.Boxes[0].Rules[0]) }, api.ErrPriority},
		{"no expression", func(c *api.Config) { c.Boxes[0].Guards[0].Match = nil }, api.ErrMatch},
		{"a set of no field", func(c *api.Config) { c.Boxes[0].Rules[0].Sets = []api.Set{{}} }, api.ErrSets},
		{"a prefix without routing", func(c *api.Config) { c.Boxes[0].Owns = []api.Prefix{{To: "o"}} }, api.ErrPrefix},
		{"a rule from an out-port", func(c *api.Config) { c.Boxes[0].Rules[0].From = []string{"o"} }, api.ErrSide},
		{"a slice without an expression", func(c *api.Config) { c.Slices = []api.Slice{{Name: "s"}} }, api.ErrMatch},
		{"two links of one port", func(c *api.Config) {
			c.Links = []api.Link{{From: "B.o", To: "B.i", Cost: 1}, {From: "B.o", To: "B.i", Cost: 1}}
		}, api.ErrLinked},
	} {
		c := withSpare(good)
		x.do(&c)
		checkLower(t, x.of, c, api.Net{}, x.errno)
		for _, number := range []int{0, 1, 2, -1, 1 << 62, -1 << 63} {
			checkTable(t, x.of, c, number, nil, x.errno)
			checkGuard(t, x.of, c, number, nil, x.errno)
		}
	}
	for _, number := range []int{2, 3, -1, 1<<63 - 1, -1 << 63} {
		checkTable(t, "too many cubes", good, number, nil, api.ErrArg)
		checkGuard(t, "too many cubes", good, number, nil, api.ErrArg)
	}
	checkTable(t, "one box", good, 1, nil, api.ErrArg)
	checkTable(t, "too many cubes", good, 0, nil, api.ErrBudget)
	checkGuard(t, "too many cubes", good, 0, nil, api.ErrBudget)
	checkGuard(t, "too many cubes elsewhere", good, 1, nil, api.OK)
	checkLower(t, "too many cubes", good, api.Net{}, api.ErrBudget)
}

// many: a network of one box with that head, and a line for each number.
func many(t *testing.T, head string, count int, line string) string {
	t.Helper()
	for n := range count {
		head += strings.ReplaceAll(line, "N", fmt.Sprint(n)) + "\n"
	}
	return head
}

func cubesOf(table []api.Entry) int {
	sum := 0
	for _, e := range table {
		sum += len(e.Cubes)
	}
	return sum
}

const (
	wideHead = "header a:32 b:8 dst:8\nrouting dst\nbox B\nin i j\nout o\n"
	full     = "a = 1..4294967294 | b = 5..6" // 62 cubes and 2
	over     = "a = 1..4294967294 | b = 5..7"
)

// The bound of one match: 64 cubes; of one table and of one guard: 512.
func TestBoundsOfCubes(t *testing.T) {
	for _, x := range []struct {
		of, text string
		errno    api.Errno
	}{
		{"64 cubes of a rule", wideHead + "rule 1 match " + full + " drop", api.OK},
		{"65 cubes of a rule", wideHead + "rule 1 match " + over + " | b = 9 drop", api.ErrBudget},
		{"64 cubes of a line", wideHead + "guard o deny " + full, api.OK},
		{"65 cubes of a line", wideHead + "guard o deny " + over + " | b = 9", api.ErrBudget},
		{"a space that is too great", wideHead + "rule 1 match a = 1..4294967294 & b = 1..254 & dst = 1..254 drop", api.ErrBudget},
		{"a space that is too great, of a line", wideHead + "guard i deny a = 1..4294967294 & b = 1..254 & dst = 1..254", api.ErrBudget},
		{"512 cubes of rules", many(t, wideHead, 8, "rule N match "+full+" drop"), api.OK},
		{"513 cubes of rules", many(t, wideHead, 8, "rule N match "+full+" drop") + "rule 9 match any drop", api.ErrBudget},
		{"512 cubes and rules without any", many(t, wideHead, 8, "rule N match "+full+" drop") + "rule 9 match none drop", api.OK},
		{"513 cubes of rules and a route", many(t, wideHead, 8, "rule N match "+full+" drop") + "route 0/0 to o", api.ErrBudget},
		{"512 cubes of rules and a route", many(t, wideHead, 7, "rule N match "+full+" drop") + "rule 9 match a = 1..4294967294 | b = 5 drop\nroute 0/0 to o", api.OK},
		{"513 cubes of rules and a computed route", many(t, wideHead, 8, "rule N match "+full+" drop") + "box C\nin i\nout o\nown 0/0 to o\nlink B.o -> C.i", api.ErrBudget},
		{"512 cubes of two boxes each", many(t, many(t, wideHead, 8, "rule N match "+full+" drop")+"box C\n", 8, "rule N match "+full+" drop"), api.OK},
		{"512 cubes of a guard", many(t, wideHead, 8, "guard i deny "+full), api.OK},
		{"513 cubes of a guard", many(t, wideHead, 8, "guard i deny "+full) + "guard i permit any", api.ErrBudget},
		{"512 cubes of two guards each", many(t, many(t, wideHead, 8, "guard i deny "+full), 8, "guard j permit "+full), api.OK},
		{"512 cubes of a guard and of the table each", many(t, many(t, wideHead, 8, "guard i deny "+full), 8, "rule N match "+full+" drop"), api.OK},
	} {
		if errno := checkAll(t, parsed(t, x.text)); errno != x.errno {
			t.Errorf("P9.1: %s: %d, want %d", x.of, errno, x.errno)
		}
	}
}

// A call that asks for one part does not look at the others.
func TestPartsAreLookedAtAlone(t *testing.T) {
	text := many(t, wideHead, 8, "rule N match "+full+" drop") + "rule 9 match any drop\nguard i deny " + over + " | b = 9\nbox C\nin i\nout o\nrule 1 match any drop\nguard o permit any\n"
	c := parsed(t, text)
	all := strings.Repeat("x", 48)
	checkLower(t, "two parts too great", c, api.Net{}, api.ErrBudget)
	checkTable(t, "too great", c, 0, nil, api.ErrBudget)
	checkTable(t, "beside it", c, 1, []api.Entry{{Name: "C rule 1", Ins: []int{3}, Cubes: []string{all}, Write: all}}, api.OK)
	checkGuard(t, "too great", c, 0, nil, api.ErrBudget)
	checkGuard(t, "beside it", c, 1, nil, api.OK)
	checkGuard(t, "in the other box", c, 4, []api.Guard{{Permit: true, Cubes: []string{all}}}, api.OK)
}

// ring: boxes that lead round, and own so many prefixes together; each of them is in each table.
func ring(boxes, prefixes int) api.Config {
	c := api.Config{Fields: []api.Field{{Name: "a", Bits: 8}}, Routing: "a"}
	for n := range boxes {
		b := api.Box{Name: fmt.Sprint("B", n), Ins: []string{"i"}, Outs: []string{"o"}}
		for k := n; k < prefixes; k += boxes {
			b.Owns = append(b.Owns, api.Prefix{Value: k, Len: 8, To: "o"})
		}
		c.Boxes = append(c.Boxes, b)
		c.Links = append(c.Links, api.Link{From: b.Name + ".o", To: fmt.Sprint("B", (n+1)%boxes, ".i"), Cost: 1})
	}
	return c
}

// The bound of all tables: 256 entries; rules count, too.
func TestBoundOfEntries(t *testing.T) {
	for boxes := 1; boxes <= 16; boxes++ {
		for _, prefixes := range []int{256 / boxes, 256/boxes + 1} {
			if prefixes > 64 {
				continue
			}
			c := ring(boxes, prefixes)
			rules := 256 - boxes*prefixes
			for n := range max(rules, 0) {
				c.Boxes[n%boxes].Rules = append(c.Boxes[n%boxes].Rules, api.Rule{Priority: n, Match: []api.Node{{Kind: api.NodeNone}}})
			}
			want := api.OK
			if rules < 0 {
				want = api.ErrBudget
			}
			if errno := checkAll(t, c); errno != want {
				t.Errorf("P9.1: %d boxes, %d prefixes, %d rules: %d, want %d", boxes, prefixes, rules, errno, want)
			}
			last := &c.Boxes[boxes-1]
			last.Rules = append(last.Rules, api.Rule{Priority: 65535, Match: []api.Node{{Kind: api.NodeNone}}})
			if errno := checkAll(t, c); errno != api.ErrBudget {
				t.Errorf("P9.1: %d boxes, %d prefixes, %d rules: %d", boxes, prefixes, rules+1, errno)
			}
			if table, errno := lower.Table(c, boxes-1); errno != api.OK || cubesOf(table) != prefixes {
				t.Errorf("P9.2: one table of too many entries in all: %d cubes, %d", cubesOf(table), errno)
			}
		}
	}
}
