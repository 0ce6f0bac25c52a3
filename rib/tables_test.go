package rib_test

import (
	"fmt"
	"slices"
	"testing"

	"reach/api"
	"reach/model"
	"reach/rib"
)

// three: R1 leads to R2 (over c, 5) and R3 (over d, 2), R2 to R1; nothing leads on from R3. Ports: R1.a 0, R1.c 1, R1.d 2, R2.a 3, R2.c 4, R2.d 5, R3.a 6, R3.c 7.
func three(t *testing.T, head, inR1, inR2, inR3 string) api.Config {
	t.Helper()
	return parsed(t, "header src:3 dst:4 tag:1\n"+head+"\nbox R1\nin a\nout c d\n"+inR1+"\nbox R2\nin a\nout c d\n"+inR2+"\nbox R3\nin a\nout c\n"+inR3+"\nlink R1.d -> R3.a cost 2\nlink R2.c -> R1.a\nlink R1.c -> R2.a cost 5\n")
}

func TestTablesByHand(t *testing.T) {
	for _, x := range []struct {
		of                     string
		head, inR1, inR2, inR3 string
		want                   [3][]api.Route
	}{
		{"nothing routed on", "", "", "", "", [3][]api.Route{}},
		{"nothing owned", "routing dst", "", "", "", [3][]api.Route{}},
		{"one owner", "routing dst", "", "own 8/1 to d", "",
			[3][]api.Route{{computed(8, 1, 1)}, {own(8, 1, 5)}, nil}},
		{"a way over a box between", "routing dst", "", "", "own 8/1 to c",
			[3][]api.Route{{computed(8, 1, 2)}, {computed(8, 1, 4)}, {own(8, 1, 7)}}},
		{"two owners: the nearer one", "routing dst", "", "own 8/1 to d", "own 8/1 to c",
			[3][]api.Route{{computed(8, 1, 2)}, {own(8, 1, 5)}, {own(8, 1, 7)}}},
		{"one value, two lengths", "routing dst", "", "own 8/1 to d", "own 8/2 to c",
			[3][]api.Route{{computed(8, 2, 2), computed(8, 1, 1)}, {computed(8, 2, 4), own(8, 1, 5)}, {own(8, 2, 7)}}},
		{"one length, two values", "routing dst", "own 4/2 to d", "own 12/2 to d\nown 8/2 to c", "",
			[3][]api.Route{{own(4, 2, 2), computed(8, 2, 1), computed(12, 2, 1)}, {computed(4, 2, 4), own(8, 2, 4), own(12, 2, 5)}, nil}},
		{"own ahead of static", "routing dst", "route 0/0 to c\nown 0/0 to d", "", "",
			[3][]api.Route{{own(0, 0, 2)}, {computed(0, 0, 4)}, nil}},
		{"static ahead of computed", "routing dst", "route 8/1 to d", "own 8/1 to d\nroute 8/1 to c", "route 8/1 to c",
			[3][]api.Route{{static(8, 1, 2)}, {own(8, 1, 5)}, {static(8, 1, 7)}}},
		{"what is written as a route is owned by no one", "routing dst", "route 8/1 to c", "", "",
			[3][]api.Route{{static(8, 1, 1)}, nil, nil}},
		{"slim", "routing dst slim", "route 8/2 to c", "own 8/1 to d\nown 12/2 to d\nown 14/3 to c", "own 12/2 to c",
			[3][]api.Route{{computed(14, 3, 1), static(8, 2, 1), computed(12, 2, 2)}, {own(14, 3, 4), own(8, 1, 5)}, {own(12, 2, 7)}}},
		{"all of them, not slim", "routing dst", "route 8/2 to c", "own 8/1 to d\nown 12/2 to d\nown 14/3 to c", "own 12/2 to c",
			[3][]api.Route{{computed(14, 3, 1), static(8, 2, 1), computed(12, 2, 2), computed(8, 1, 1)}, {own(14, 3, 4), own(12, 2, 5), own(8, 1, 5)}, {own(12, 2, 7)}}},
		{"another field, of one bit", "routing tag", "own 1/1 to c", "route 0/0 to d", "",
			[3][]api.Route{{own(1, 1, 1)}, {computed(1, 1, 4), static(0, 0, 5)}, nil}},
	} {
		c := three(t, x.head, x.inR1, x.inR2, x.inR3)
		checkTables(t, x.of, c, x.want[:], api.OK)
	}
}

// Of two links that begin a shortest way the one of the lower out-port is told, whatever the links' order.
func TestTablesDoNotHangOnTheLinksOrder(t *testing.T) {
	c := parsed(t, "header dst:32\nrouting dst\nbox A\nout p q r\nbox B\nin a b c\nout d\nown 0/0 to d\nlink A.r -> B.a cost 3\nlink A.q -> B.b cost 3\nlink A.p -> B.c cost 4")
	for range 6 {
		checkTables(t, "three links", c, [][]api.Route{{computed(0, 0, 1)}, {own(0, 0, 6)}}, api.OK)
		c.Links = append(c.Links[1:], c.Links[0])
	}
}

func TestTablesWithoutBoxes(t *testing.T) {
	for _, head := range []string{"header dst:4", "header dst:4\nrouting dst", "header dst:4\nrouting dst slim"} {
		checkTables(t, head, parsed(t, head), nil, api.OK)
		checkTables(t, head+" and empty boxes", parsed(t, head+"\nbox A\nbox B"), [][]api.Route{nil, nil}, api.OK)
	}
}

func TestErrorsOfTables(t *testing.T) {
	right := three(t, "routing dst", "own 8/1 to c", "route 8/1 to c", "")
	if _, errno := rib.Tables(right); errno != api.OK {
		t.Fatalf("P8.7: %d", errno)
	}
	for _, x := range []struct {
		of    string
		do    func(c *api.Config)
		errno api.Errno
	}{
		{"nothing at all", func(c *api.Config) { *c = api.Config{} }, api.ErrLayout},
		{"a routing that is no field", func(c *api.Config) { c.Routing = "none" }, api.ErrUnknown},
		{"slim without routing", func(c *api.Config) { c.Routing, c.Slim = "", true }, api.ErrUnknown},
		{"prefixes without routing", func(c *api.Config) { c.Routing = "" }, api.ErrPrefix},
		{"a value too great", func(c *api.Config) { c.Boxes[0].Owns[0].Value = 16 }, api.ErrPrefix},
		{"a prefix to an in-port", func(c *api.Config) { c.Boxes[0].Owns[0].To = "a" }, api.ErrSide},
		{"a prefix to nothing", func(c *api.Config) { c.Boxes[1].Routes[0].To = "z" }, api.ErrUnknown},
		{"too many boxes", func(c *api.Config) { c.Boxes = make([]api.Box, 17) }, api.ErrCount},
		{"too many routes", func(c *api.Config) { c.Boxes[2].Routes = make([]api.Prefix, 63) }, api.ErrCount},
		{"a second box of one name", func(c *api.Config) { c.Boxes[1].Name = "R1" }, api.ErrDouble},
		{"a name that is none", func(c *api.Config) { c.Boxes[1].Name = "" }, api.ErrName},
		{"a cost too great", func(c *api.Config) { c.Links[0].Cost = 10000 }, api.ErrCount},
		{"a port that is linked twice", func(c *api.Config) { c.Links[1].From = "R1.d" }, api.ErrLinked},
		{"a slice without an expression", func(c *api.Config) { c.Slices = []api.Slice{{Name: "s"}} }, api.ErrMatch},
	} {
		c := three(t, "routing dst", "own 8/1 to c", "route 8/1 to c", "")
		x.do(&c)
		checkTables(t, x.of, c, nil, x.errno)
	}
}

func TestMixedTables(t *testing.T) {
	s := source(71)
	kinds := map[int]int{}
	for n := range 1500 {
		c := s.network(1 + n%16)
		want, errno := tellTables(c)
		if errno != api.OK {
			t.Fatalf("no well-formed network: %d, %+v", errno, c)
		}
		checkTables(t, fmt.Sprintf("%+v", c), c, want, api.OK)
		for _, list := range want {
			for _, r := range list {
				kinds[r.Kind]++
			}
		}
	}
	if min(kinds[1], kinds[2], kinds[3]) < 1000 {
		t.Errorf("few routes of a kind: %v", kinds)
	}
}

// atTheLimits: 16 boxes in a ring, 48 ports, 32 links, 64 prefixes.
func atTheLimits(slim bool) api.Config {
	c := api.Config{Fields: []api.Field{{Name: "dst", Bits: 32}}, Routing: "dst", Slim: slim}
	for n := range 16 {
		b := api.Box{Name: fmt.Sprint("B", n), Ins: []string{"a"}, Outs: []string{"l", "r"}}
		for k := range 4 {
			b.Owns = append(b.Owns, api.Prefix{Value: n<<28 | k<<(24-4*k), Len: 8 + 4*k, To: "l"})
		}
		c.Boxes = append(c.Boxes, b)
		c.Links = append(c.Links, api.Link{From: b.Name + ".l", To: fmt.Sprint("B", (n+15)%16, ".a"), Cost: 9999}, api.Link{From: b.Name + ".r", To: fmt.Sprint("B", (n+1)%16, ".a"), Cost: 9998})
	}
	return c
}

func TestTablesAtTheLimits(t *testing.T) {
	for _, slim := range []bool{false, true} {
		c := atTheLimits(slim)
		want, errno := tellTables(c)
		checkTables(t, "the limits", c, want, errno)
		if errno != api.OK || !slim && len(want[0]) != 64 {
			t.Errorf("P8.7: %d routes, %d", len(want[0]), errno)
		}
		for range 30 {
			checkTables(t, "the same again", c, want, api.OK)
		}
	}
}

// What P0.9 stands on: by computed routes alone a value comes, without passing a box twice, to a box that owns its longest prefix of those that can be come to.
func TestComputedRoutesLeadHome(t *testing.T) {
	s := source(72)
	for n := range 300 {
		c := s.network(1 + n%16)
		if c.Routing == "" {
			continue
		}
		linked := map[string]int{}
		for _, l := range c.Links {
			linked[l.From]++
		}
		for at, b := range c.Boxes {
			c.Boxes[at].Routes = nil
			c.Boxes[at].Owns = slices.DeleteFunc(b.Owns, func(p api.Prefix) bool { return linked[b.Name+"."+p.To] > 0 })
		}
		checkLeadsHome(t, c, s.values(c.Fields[1].Bits, nil))
	}
}

func checkLeadsHome(t *testing.T, c api.Config, values []int) {
	t.Helper()
	tables, errno := rib.Tables(c)
	ports, _ := model.Ports(c)
	bits := c.Fields[1].Bits
	for box := range c.Boxes {
		for _, value := range values {
			at, seen := box, make([]int, len(c.Boxes))
			for {
				if seen[at]++; errno != api.OK || seen[at] > 1 {
					t.Fatalf("P8.7: %d goes round in circles from box %d on: %+v", value, box, c)
				}
				place := tellPlace(bits, tables[at], value)
				if place < 0 && at != box {
					t.Fatalf("P8.7: %d is lost on its way from box %d: %+v", value, box, c)
				}
				if place < 0 || tables[at][place].Kind == api.RouteOwn {
					break
				}
				at = ports[ports[tables[at][place].Out].To].Box
			}
		}
	}
}
