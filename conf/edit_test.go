package conf_test

import (
	"slices"
	"strings"
	"testing"

	"reach/api"
	"reach/conf"
)

// checkEdit holds Edit against its second telling.
func checkEdit(t *testing.T, c api.Config, line string) api.Errno {
	t.Helper()
	d, errno := conf.Edit(c, line)
	if want, wantErrno := tellEdit(c, line); !equal(d, want) || errno != wantErrno {
		t.Fatalf("P6.5: Edit(%+v, %q) = %+v, %d; want %+v, %d", c, line, d, errno, want, wantErrno)
	}
	return errno
}

func TestEditByAllShortLines(t *testing.T) {
	words := append(strings.Fields(reservedWords), "B", "a", "e", "B.c", "B.to", "5", `"t"`, "%01", "/", "->", "\n")
	c := whole()
	for size := range 4 {
		eachLine(words, size, func(line string) { checkEdit(t, c, line) })
	}
	short := []string{"box", "in", "rule", "own", "link", "at", "no", "to", "B", "e", "B.c", "5", "/", "\n"}
	for _, ahead := range []string{"no ", "at B ", "at e ", "no at B "} {
		eachLine(short, 3, func(line string) { checkEdit(t, c, ahead+line) })
	}
	eachLine(short, 4, func(line string) { checkEdit(t, c, "no at B "+line) })
}

// Whatever line goes on behind the beginning of a right one.
func TestEditByAllEndsOfRightLines(t *testing.T) {
	words := append(strings.Fields(reservedWords), "B", "a", "e", "B.c", "no.a", "5", `"t"`, "%01", ":", "=", "/", ",", "->", "&", "\n", "\nbox E")
	c := whole()
	for _, line := range []string{
		"box E", "link C.a -> B.a cost 5", "slice e B.a C.b where any & none", "at B in e f", "at B out e f", "at B guard a permit any", "at B guard e deny a = 1 & none",
		"at B rule 7 from a b match any set a = 1 , b = 2 to a , b", "at C rule 5 match none drop", "at B own 5 / 7 to a", "at B route 5 / 7 to a",
		"no box B", "no link B.c", "no slice s", "no at B in a", "no at B out c", "no at B guard a", "no at B rule 5", "no at B own 1 / 2", "no at B route 3 / 4",
	} {
		if errno := checkEdit(t, c, line); errno != api.OK {
			t.Errorf("P6.5: Edit by %q: %d", line, errno)
		}
		parts := strings.Fields(line)
		for at := range parts {
			ahead, behind := strings.Join(parts[:at], " "), strings.Join(parts[at+1:], " ")
			checkEdit(t, c, ahead)
			for _, word := range words {
				checkEdit(t, c, ahead+" "+word)
				checkEdit(t, c, ahead+" "+word+" "+behind)
				checkEdit(t, c, ahead+" "+parts[at]+" "+word+" "+behind)
			}
		}
	}
}

func TestEditOfMixedNetworks(t *testing.T) {
	s := source(65)
	met := map[api.Errno]int{}
	for range 1500 {
		c := s.network()
		for range 6 {
			met[checkEdit(t, c, s.edit())]++
			met[checkEdit(t, c, s.broken(s.edit()))]++
		}
	}
	for _, errno := range []api.Errno{api.OK, api.ErrGone, api.ErrThere, api.ErrSyntax, api.ErrOrder, api.ErrKeyword} {
		if met[errno] < 50 {
			t.Errorf("P6.5: %d is met %d times", errno, met[errno])
		}
	}
}

// A network that many edits have made, one behind the other.
func TestEditsBehindOneAnother(t *testing.T) {
	s := source(66)
	var c api.Config
	done := 0
	for range 3000 {
		line := s.edit()
		if checkEdit(t, c, line) == api.OK {
			c, _ = conf.Edit(c, line)
			done++
		}
	}
	if done < 300 {
		t.Errorf("P6.5: only %d edits", done)
	}
}

// The faults of a line come from left to right, and ahead of those of the network.
func TestEditTellsTheFirstFault(t *testing.T) {
	deep := strings.Repeat("!", 33) + "any"
	c := whole()
	for _, x := range []struct {
		line  string
		errno api.Errno
	}{
		{"", api.ErrKeyword}, {"# box E", api.ErrKeyword}, {" \n\n", api.ErrKeyword},
		{"box E $", api.ErrByte}, {"foo\n\n$", api.ErrByte}, {"at 007", api.ErrNumber}, {strings.Repeat(" ", 16385), api.ErrLong}, {"box E" + strings.Repeat(" ", 16379), api.OK}, {"box E" + strings.Repeat(" ", 16380), api.ErrLong},
		{"foo", api.ErrKeyword}, {"5", api.ErrKeyword}, {`"box" E`, api.ErrKeyword}, {"B.c", api.ErrKeyword}, {"match any", api.ErrKeyword}, {"(", api.ErrKeyword},
		{"network \"t\"", api.ErrOrder}, {"header a:5", api.ErrOrder}, {"routing a", api.ErrOrder}, {"in a", api.ErrOrder}, {"guard", api.ErrOrder}, {"own foo", api.ErrOrder},
		{"no", api.ErrKeyword}, {"no foo", api.ErrKeyword}, {"no\nbox B", api.ErrKeyword}, {"no no", api.ErrOrder}, {"no in a", api.ErrOrder}, {"no routing", api.ErrOrder},
		{"at", api.ErrSyntax}, {"at\nB", api.ErrSyntax}, {"at box", api.ErrSyntax}, {"at B.c in e", api.ErrSyntax}, {"no at", api.ErrSyntax}, {"no at 5", api.ErrSyntax},
		{"at E", api.ErrKeyword}, {"at E foo", api.ErrKeyword}, {"at E\nin a", api.ErrKeyword}, {"at E at", api.ErrOrder}, {"at E no", api.ErrOrder}, {"at E box", api.ErrOrder}, {"at E network", api.ErrOrder}, {"no at E", api.ErrKeyword}, {"no at E slice", api.ErrOrder},
		{"at E in", api.ErrSyntax}, {"at E in to", api.ErrSyntax}, {"at E in a\n\nin", api.ErrSyntax}, {"no at E in a b", api.ErrSyntax}, {"no at E guard a permit any", api.ErrSyntax}, {"no at E own 1/2 to a", api.ErrSyntax},
		{"at E guard a deny " + deep, api.ErrDeep}, {"at E rule 5 match any" + strings.Repeat("|any", 32) + " drop\nfoo", api.ErrNodes}, {"slice s where " + deep, api.ErrDeep}, {"slice s where any any", api.ErrSyntax},
		{"at E in a a", api.ErrGone}, {"at E rule 5 match any drop", api.ErrGone}, {"no at E in a", api.ErrGone}, {"at in in a", api.ErrSyntax},
		{"box B\nfoo", api.ErrSyntax}, {"box B\n$", api.ErrByte}, {"no box E F", api.ErrSyntax}, {"no link B", api.ErrSyntax}, {"no link B.c -> C.a", api.ErrSyntax}, {"no slice s where any", api.ErrSyntax}, {"no box B\n#\n", api.OK},
	} {
		if errno := checkEdit(t, c, x.line); errno != x.errno {
			t.Errorf("P6.5: Edit by %.40q: %d; want %d", x.line, errno, x.errno)
		}
	}
}

// What may be added, and what is there already.
func TestEditOfWhatIsThere(t *testing.T) {
	c := whole()
	for _, x := range []struct {
		line  string
		errno api.Errno
	}{
		{"box B", api.ErrThere}, {"box b", api.OK}, {"box s", api.OK}, {"link B.c -> B.a", api.ErrThere}, {"link B.a -> C.a", api.OK}, {"link C.a -> B.c", api.OK}, {"slice s where any", api.ErrThere}, {"slice B where any", api.OK},
		{"at B in a", api.ErrThere}, {"at B in c", api.ErrThere}, {"at B in e d", api.ErrThere}, {"at B in e e", api.ErrThere}, {"at B in e f e", api.ErrThere}, {"at B in e f", api.OK},
		{"at B out a", api.ErrThere}, {"at B out c", api.ErrThere}, {"at B out e b", api.ErrThere}, {"at B out e e", api.ErrThere}, {"at B out e f", api.OK}, {"at C in a b", api.OK}, {"at C out a", api.OK},
		{"at B guard a permit f = 1", api.OK}, {"at B guard e deny any", api.OK},
		{"at B rule 5 match any drop", api.ErrThere}, {"at B rule 0b110 match any drop", api.ErrThere}, {"at B rule 7 match none drop", api.OK}, {"at C rule 5 match any drop", api.OK},
		{"at B own 1/2 to d", api.ErrThere}, {"at B own 1/3 to c", api.OK}, {"at B own 2/2 to c", api.OK}, {"at B own 3/4 to c", api.OK},
		{"at B route 3/4 to e", api.ErrThere}, {"at B route 3/5 to d", api.OK}, {"at B route 4/4 to d", api.OK}, {"at B route 1/2 to d", api.OK},
		{"no box E", api.ErrGone}, {"no link C.a", api.ErrGone}, {"no link B.a", api.ErrGone}, {"no slice B", api.ErrGone}, {"no at B in c", api.ErrGone}, {"no at B out a", api.ErrGone}, {"no at B guard b", api.ErrGone}, {"no at B rule 7", api.ErrGone}, {"no at C rule 5", api.ErrGone},
		{"no at B own 1/3", api.ErrGone}, {"no at B own 3/4", api.ErrGone}, {"no at B route 1/2", api.ErrGone}, {"no at B route 3/2", api.ErrGone},
	} {
		if errno := checkEdit(t, c, x.line); errno != x.errno {
			t.Errorf("P6.5: Edit by %q: %d; want %d", x.line, errno, x.errno)
		}
	}
}

// Each element of that name goes, and nothing that only names it; `at` means the first of several boxes.
func TestEditOfWhatStandsTwice(t *testing.T) {
	twice := whole()
	twice.Boxes = append(twice.Boxes, cloned(twice.Boxes[0]), api.Box{Name: "in", Ins: []string{"", "\xff"}})
	b := &twice.Boxes[0]
	b.Ins, b.Outs = []string{"a", "b", "a", "c", "c"}, []string{"a", "c", "a"}
	b.Guards = append(b.Guards, cloned(b.Guards[0]), api.Line{Port: "a"}, api.Line{})
	b.Rules = append(b.Rules, api.Rule{Priority: 5}, api.Rule{Priority: -5, From: []string{"to"}}, cloned(b.Rules[0]))
	b.Owns = append(b.Owns, api.Prefix{Value: 1, Len: 2, To: "z"}, api.Prefix{Value: -1, Len: 99})
	b.Routes = append(b.Routes, api.Prefix{Value: 3, Len: 4}, api.Prefix{Value: 3, Len: 5})
	twice.Links = append(twice.Links, api.Link{From: "B.c"}, api.Link{From: "B", Cost: -1})
	twice.Slices = append(twice.Slices, api.Slice{Name: "s"}, api.Slice{})
	twice.Title, twice.Slim, twice.Routing = strings.Repeat("\xff", 300), true, ""
	for _, line := range []string{"no box B", "no link B.c", "no slice s", "no at B in a", "no at B out a", "no at B guard a", "no at B rule 5", "no at B own 1/2", "no at B route 3/4", "box E", "at B in e", "at B rule 7 match any drop", "at B guard a deny any", "slice e where any", "link E.a -> E.b"} {
		if errno := checkEdit(t, twice, line); errno != api.OK {
			t.Errorf("P6.5: Edit by %q: %d", line, errno)
			continue
		}
		d, _ := conf.Edit(twice, line)
		if _, errno := conf.Edit(d, line); strings.HasPrefix(line, "no") && !strings.HasPrefix(line, "no at") && errno != api.ErrGone {
			t.Errorf("P6.5: Edit by %q, once more: %d", line, errno)
		}
	}
	d, _ := conf.Edit(twice, "no at B in a")
	if !slices.Equal(d.Boxes[0].Ins, []string{"b", "c", "c"}) || !slices.Equal(d.Boxes[0].Outs, b.Outs) || !equal(d.Boxes[1:], twice.Boxes[1:]) || len(d.Boxes[0].Guards) != len(b.Guards) {
		t.Errorf("P6.5: no at B in a: %+v", d)
	}
	if d, _ := conf.Edit(twice, "no box B"); len(d.Boxes) != 2 || !equal(d.Links, twice.Links) || !equal(d.Slices, twice.Slices) {
		t.Errorf("P6.5: no box B: %+v", d)
	}
}

// P6.6: a body's line says the same behind `at` and in the text.
func TestEditSaysWhatTheTextSays(t *testing.T) {
	s := source(67)
	met := 0
	for range 20000 {
		text := s.text(false)
		c, errno, _ := conf.Parse(text)
		if errno != api.OK || len(c.Boxes) == 0 {
			continue
		}
		last := c.Boxes[len(c.Boxes)-1].Name
		if slices.ContainsFunc(c.Boxes[:len(c.Boxes)-1], func(b api.Box) bool { return b.Name == last }) {
			continue
		}
		line := s.bodyLine()
		longer, errno, _ := conf.Parse(text + "\n" + line)
		if errno == api.ErrOrder { // the last declaration is a link or slice
			continue
		}
		changed, editErrno := conf.Edit(c, "at "+last+" "+line)
		if editErrno == api.ErrThere {
			continue
		}
		if met++; errno != api.OK || editErrno != api.OK || !equal(longer, changed) {
			t.Fatalf("P6.6: behind %q the line %q gives %+v, %d; Edit gives %+v, %d", text, line, longer, errno, changed, editErrno)
		}
	}
	if met < 5000 {
		t.Errorf("P6.6: only %d lines", met)
	}
}
