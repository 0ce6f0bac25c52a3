package conf_test

import (
	"math"
	"strings"
	"testing"

	"reach/api"
	"reach/conf"
	"reach/scan"
)

var anyMatch = []api.Node{{Kind: api.NodeAny}}

// checkPrint holds Print against its second telling, and reads back what it writes; P6.2, P6.3.
func checkPrint(t *testing.T, c api.Config) api.Errno {
	t.Helper()
	text, errno := conf.Print(c)
	if want, wantErrno := tellPrint(c); text != want || errno != wantErrno {
		t.Fatalf("P6.2: Print(%+v) = %q, %d; want %q, %d", c, text, errno, want, wantErrno)
	}
	if errno != api.OK {
		return errno
	}
	if back, errno, line := conf.Parse(text); !equal(back, c) || errno != api.OK || line != 0 {
		t.Fatalf("P6.3: Parse(%q) = %+v, %d, %d; want %+v", text, back, errno, line, c)
	}
	return api.OK
}

func TestPrintOfMixedNetworks(t *testing.T) {
	s := source(62)
	for range 4000 {
		if errno := checkPrint(t, s.network()); errno != api.OK && errno != api.ErrLong {
			t.Fatalf("P6.2: %d", errno)
		}
	}
}

// What Parse reads, Print writes, and that says the same.
func TestPrintOfWhatWasRead(t *testing.T) {
	s := source(63)
	for range 3000 {
		text := s.text(false)
		c, errno, _ := conf.Parse(text)
		if errno != api.OK || checkPrint(t, c) != api.OK {
			t.Fatalf("P6.3: the text %q: %d", text, errno)
		}
	}
}

// The layout of a line is that of its tokens; only a body's line has two spaces ahead of it.
func TestPrintLaysLinesOutAsTheScannerDoes(t *testing.T) {
	s := source(64)
	for range 1000 {
		text, _ := conf.Print(s.network())
		for line := range strings.Lines(text) {
			tokens, _, _, _ := scan.Scan(line)
			laid, errno := scan.Print(tokens)
			ahead := ""
			if isOneOf(bodyWords, tokens[0].Text) {
				ahead = "  "
			}
			if line != ahead+laid || errno != api.OK {
				t.Fatalf("P6.2: %q; the scanner lays it out as %q", line, laid)
			}
		}
	}
}

// whole: a network with something everywhere.
func whole() api.Config {
	c, _, _ := conf.Parse("network \"t\"\nheader f:5 g:6\nrouting f slim\nbox B\nin a b\nout c d\nguard a permit f = 1\nguard c deny any\nrule 5 from a b match f = 1/2 & !any set f = 1, g = 2 to c, d\nrule 6 match none drop\nown 1/2 to c\nroute 3/4 to d\nbox C\nlink B.c -> C.a cost 7\nlink B.d -> B.a\nslice s B.a C.b where f < 3")
	return c
}

// names: where the names of whole stand, to be spoilt; its ports, numbers and expressions likewise.
func names(c *api.Config) []*string {
	b := &c.Boxes[0]
	return []*string{&c.Fields[0].Name, &c.Fields[1].Name, &b.Name, &c.Boxes[1].Name, &b.Ins[0], &b.Ins[1], &b.Outs[0], &b.Outs[1], &b.Guards[0].Port, &b.Guards[1].Port, &b.Rules[0].From[0], &b.Rules[0].From[1], &b.Rules[0].Sets[0].Field, &b.Rules[0].Sets[1].Field, &b.Rules[0].To[0], &b.Rules[0].To[1], &b.Owns[0].To, &b.Routes[0].To, &c.Slices[0].Name}
}

func ports(c *api.Config) []*string {
	return []*string{&c.Links[0].From, &c.Links[0].To, &c.Links[1].From, &c.Links[1].To, &c.Slices[0].Ports[0], &c.Slices[0].Ports[1]}
}

func values(c *api.Config) []*int {
	b := &c.Boxes[0]
	return []*int{&c.Fields[0].Bits, &c.Fields[1].Bits, &b.Rules[0].Priority, &b.Rules[1].Priority, &b.Rules[0].Sets[0].Value, &b.Rules[0].Sets[1].Value, &b.Owns[0].Value, &b.Owns[0].Len, &b.Routes[0].Value, &b.Routes[0].Len, &c.Links[0].Cost, &c.Links[1].Cost}
}

func matches(c *api.Config) []*[]api.Node {
	b := &c.Boxes[0]
	return []*[]api.Node{&b.Guards[0].Match, &b.Guards[1].Match, &b.Rules[0].Match, &b.Rules[1].Match, &c.Slices[0].Where}
}

// checkSpoilt writes something into each of the places, one at a time, and asks for that answer.
func checkSpoilt[T any](t *testing.T, places func(*api.Config) []*T, with T, want api.Errno) {
	t.Helper()
	c := whole()
	for n := range places(&c) {
		c := whole()
		*places(&c)[n] = with
		if errno := checkPrint(t, c); errno != want {
			t.Errorf("P6.2: %v at the place %d: %d; want %d", with, n, errno, want)
		}
	}
}

func TestPrintOfNames(t *testing.T) {
	routing := func(c *api.Config) []*string { return []*string{&c.Routing} }
	bad := append(strings.Fields(reservedWords), "", " ", "a ", " a", "a b", "a\n", "a#", "a.b", "7", "é", "a-b", "\xff", "%01", `"a"`, "->", strings.Repeat("a", 25), strings.Repeat("a", 20000))
	for _, name := range bad {
		checkSpoilt(t, names, name, api.ErrPrint)
		if name != "" {
			checkSpoilt(t, routing, name, api.ErrPrint)
		}
		checkSpoilt(t, ports, name+".a", api.ErrPrint)
		checkSpoilt(t, ports, "a."+name, api.ErrPrint)
	}
	for _, name := range []string{"a", "_", "Z9", "ins", "At", "boX", strings.Repeat("a", 24)} {
		checkSpoilt(t, names, name, api.OK)
		checkSpoilt(t, routing, name, api.OK)
		checkSpoilt(t, ports, name+".a", api.OK)
		checkSpoilt(t, ports, "a."+name, api.OK)
	}
	for _, name := range []string{"", ".", "a", "a.", ".a", "a.b.c", "a..b", "a.b ", "a. b", "a.b\n", "a.7", "R1.\xff"} {
		checkSpoilt(t, ports, name, api.ErrPrint)
	}
}

func TestPrintOfNumbers(t *testing.T) {
	for _, v := range []int{0, 1, 2, 65535, 65536, 70000, 4294967295} {
		checkSpoilt(t, values, v, api.OK)
	}
	for _, v := range []int{-1, 4294967296, math.MinInt, math.MaxInt} {
		checkSpoilt(t, values, v, api.ErrPrint)
	}
}

func TestPrintOfExpressions(t *testing.T) {
	test := api.Node{Kind: api.NodeTest, Test: api.Test{Field: "to", Op: api.OpIs, Form: api.FormNumber, Lo: 70000}}
	not := api.Node{Kind: api.NodeNot}
	deep := anyMatch
	for range 32 {
		deep = append(deep[:len(deep):len(deep)], not)
	}
	for _, e := range [][]api.Node{anyMatch, {test}, {test, not}, deep} {
		checkSpoilt(t, matches, e, api.OK)
	}
	off := test
	off.Test.Field = "any"
	for _, e := range [][]api.Node{nil, {not}, {test, test}, {{Kind: 9}}, {off}, append(deep, not), make([]api.Node, 65)} {
		checkSpoilt(t, matches, e, api.ErrPrint)
	}
}

func TestPrintOfTitlesAndHeads(t *testing.T) {
	for _, c := range []struct {
		c     api.Config
		text  string
		errno api.Errno
	}{
		{api.Config{Title: strings.Repeat("t", 256)}, "network \"" + strings.Repeat("t", 256) + "\"\n", api.OK},
		{api.Config{Title: strings.Repeat("t", 257)}, "", api.ErrPrint},
		{api.Config{Title: strings.Repeat("é", 129)}, "", api.ErrPrint},
		{api.Config{Title: "\x00\xff\n\"\\\u200b"}, "network \"\\x00\\xff\\n\\\"\\\\\\u{200b}\"\n", api.OK},
		{api.Config{Routing: "f"}, "routing f\n", api.OK},
		{api.Config{Routing: "f", Slim: true}, "routing f slim\n", api.OK},
		{api.Config{Slim: true}, "", api.ErrPrint},
		{api.Config{Title: "t", Fields: []api.Field{{Name: "f", Bits: 0}}, Slim: true}, "", api.ErrPrint},
		{api.Config{Fields: []api.Field{}, Boxes: []api.Box{}, Links: []api.Link{}, Slices: []api.Slice{}}, "", api.OK},
	} {
		if text, errno := conf.Print(c.c); text != c.text || errno != c.errno {
			t.Errorf("P6.2: Print(%+v) = %q, %d; want %q, %d", c.c, text, errno, c.text, c.errno)
		}
		checkPrint(t, c.c)
	}
}

// Numbers and layout of each line, to the letter.
func TestPrintOfEachLine(t *testing.T) {
	want := `network "t"
header f:5 g:6
routing f slim
box B
  in a b
  out c d
  guard a permit f = 1
  guard c deny any
  rule 5 from a b match f = 0.0.0.1/2 & !any set f = 1, g = 2 to c, d
  rule 6 match none drop
  own 0.0.0.1/2 to c
  route 0.0.0.3/4 to d
box C
link B.c -> C.a cost 7
link B.d -> B.a
slice s B.a C.b where f < 3
`
	if text, errno := conf.Print(whole()); text != want || errno != api.OK {
		t.Errorf("P6.2: %q, %d; want %q", text, errno, want)
	}
}

// filled: a network whose text has so many bytes: 8 of each box's line, what is left in the title.
func filled(size int) api.Config {
	c := api.Config{Title: strings.Repeat("t", 8+size%8)}
	rest := size - len("network \"\"\n") - len(c.Title)
	for ; rest >= 16; rest -= 8 {
		c.Boxes = append(c.Boxes, api.Box{Name: "Box"})
	}
	c.Boxes = append(c.Boxes, api.Box{Name: "B" + strings.Repeat("b", rest-6)})
	return c
}

func TestPrintAtTheLimit(t *testing.T) {
	for size := 16375; size < 16395; size++ {
		c := filled(size)
		want := api.OK
		if size > 16384 {
			want = api.ErrLong
		}
		text, errno := conf.Print(c)
		if errno != want || want == api.OK && len(text) != size || want != api.OK && text != "" {
			t.Errorf("P6.2: a text of %d bytes: %d bytes, %d", size, len(text), errno)
		}
		if errno := checkPrint(t, c); errno != want {
			t.Errorf("P6.2: a text of %d bytes: %d", size, errno)
		}
	}
}

// The two spaces ahead of a body's line count; so does the newline.
func TestPrintCountsIndents(t *testing.T) {
	for size := 16375; size < 16390; size++ {
		c := filled(size - len("  in a b\n"))
		c.Boxes[0].Ins = []string{"a", "b"}
		if errno := checkPrint(t, c); errno == api.OK != (size <= 16384) {
			t.Errorf("P6.2: a text of %d bytes: %d", size, errno)
		}
	}
}

// A single line may be too long, by its bytes or by its tokens alone; what no text gives comes first, wherever it stands.
func TestPrintOfLongLines(t *testing.T) {
	for _, size := range []int{3000, 8185, 8186, 8187, 8188, 8200, 16370, 16382, 16383, 16384, 16385, 40000} {
		long := api.Config{Boxes: []api.Box{{Name: "B", Ins: strings.Split(strings.Repeat("a ", size-1)+"a", " ")}}}
		checkPrint(t, long)
		long.Boxes = append(long.Boxes, api.Box{Name: "C"}) // this line has room where the one ahead has none
		checkPrint(t, long)
		long.Slices = []api.Slice{{Name: "s", Where: nil}}
		if errno := checkPrint(t, long); errno != api.ErrPrint {
			t.Errorf("P6.2: a slice without an expression behind %d ports: %d", size, errno)
		}
		long.Slices, long.Boxes[0].Ins[size-1] = nil, "to"
		if errno := checkPrint(t, long); errno != api.ErrPrint {
			t.Errorf("P6.2: a name that is none behind %d ports: %d", size, errno)
		}
	}
}
