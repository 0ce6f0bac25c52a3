package tern_test

import (
	"iter"
	"slices"
	"strings"
	"sync"
	"testing"

	"reach/api"
	"reach/tern"
)

const most = api.MaxBits

var zero tern.Cube

// cube reads a text that is one.
func cube(t *testing.T, text string) tern.Cube {
	t.Helper()
	c, e := tern.Parse(text)
	if e != api.OK {
		t.Fatalf("Parse(%q) = %d", text, e)
	}
	return c
}

// texts: the cubes' texts, with a comma between each two.
func texts(list []tern.Cube) string {
	var out []string
	for _, c := range list {
		out = append(out, c.Text())
	}
	return strings.Join(out, ",")
}

// everyPair calls look with all pairs of cubes of the small widths, and with pairs of wide ones.
func everyPair(look func(a, b string)) {
	groups := wide()
	for width := 1; width <= 3; width++ {
		groups = append(groups, cubesOf(width))
	}
	for _, group := range groups {
		for _, a := range group {
			for _, b := range group {
				look(a, b)
			}
		}
	}
}

// unfit: pairs of cubes that do not fit.
func unfit(t *testing.T) [][2]tern.Cube {
	one, two, all := cube(t, "1"), cube(t, "1x"), tern.All(most)
	return [][2]tern.Cube{{zero, zero}, {zero, one}, {one, zero}, {zero, all}, {all, zero}, {one, two}, {two, one}, {tern.All(most - 1), all}, {all, tern.All(64)}}
}

// P1.1: equal texts, equal cubes, whatever call made them.
func TestEqualJustIfTextsAre(t *testing.T) {
	var made []tern.Cube
	add := func(c tern.Cube) { made = append(made, c) }
	for width := 1; width <= 2; width++ {
		add(tern.All(width))
		for _, a := range cubesOf(width) {
			for _, b := range cubesOf(width) {
				c, d := cube(t, a), cube(t, b)
				add(c)
				add(c.Write(d))
				m, _ := c.Meet(d)
				add(m)
				p, _ := c.Before(d)
				add(p)
				h, _ := tern.Hull(c, d)
				add(h)
				made = append(made, c.Split(d)...)
			}
		}
	}
	key := map[tern.Cube]string{}
	for _, c := range made {
		for _, d := range made {
			if (c == d) != (c.Text() == d.Text()) {
				t.Fatalf("%q == %q is %v", c.Text(), d.Text(), c == d)
			}
		}
		key[c] = c.Text()
	}
	if len(key) != 3+9+1 {
		t.Errorf("%d keys of a map, want the 12 cubes of widths 1 and 2, and the zero cube", len(key))
	}
}

// P1.1 at the widths beside the words' borders: every call's answer is equal to the cube that is read from its text.
func TestEqualToItsTextWhenWide(t *testing.T) {
	everyPair(func(a, b string) {
		c, d := cube(t, a), cube(t, b)
		list := append(c.Split(d), c.Write(d), tern.All(len(a)))
		if m, ok := c.Meet(d); ok {
			list = append(list, m)
		}
		if p, ok := c.Before(d); ok {
			list = append(list, p)
		}
		h, _ := tern.Hull(c, d)
		for _, e := range append(list, h) {
			if e != cube(t, e.Text()) {
				t.Fatalf("of %s and %s: %s is not equal to the cube of its text", a, b, e.Text())
			}
		}
	})
}

// P1.2
func TestParseGivesTheTextBack(t *testing.T) {
	list := []string{"0", "1", "x", "10x", strings.Repeat("x", most), strings.Repeat("1", most), strings.Repeat("0", most-1) + "1"}
	for _, group := range append(wide(), list, cubesOf(3)) {
		for _, text := range group {
			if c, e := tern.Parse(text); e != api.OK || c.Text() != text || c == zero {
				t.Errorf("Parse(%q) = %q, %d", text, c.Text(), e)
			}
		}
	}
}

// P1.2, W3, W4
func TestParseRefuses(t *testing.T) {
	for _, c := range []struct {
		text string
		want api.Errno
	}{
		{"", api.ErrCube}, {"12x", api.ErrCube}, {"X", api.ErrCube}, {"10 ", api.ErrCube}, {"\n", api.ErrCube}, {"1\x00", api.ErrCube},
		{"2", api.ErrCube}, {"/", api.ErrCube}, {"w", api.ErrCube}, {"y", api.ErrCube}, {"é", api.ErrCube}, {"\xff", api.ErrCube}, {"0-1", api.ErrCube},
		{strings.Repeat("1", most-1) + "y", api.ErrCube}, {strings.Repeat("y", most), api.ErrCube},
		{strings.Repeat("x", most+1), api.ErrLong}, {strings.Repeat("y", most+1), api.ErrLong}, {strings.Repeat("0", 1<<20), api.ErrLong},
	} {
		if got, e := tern.Parse(c.text); e != c.want || got != zero {
			t.Errorf("Parse(%.40q) = %q, %d, want %d", c.text, got.Text(), e, c.want)
		}
	}
	for b := range 256 {
		text := "0" + string([]byte{byte(b)}) + "x"
		_, e := tern.Parse(text)
		if good := b == '0' || b == '1' || b == 'x'; (e == api.OK) != good {
			t.Errorf("Parse(%q): %d", text, e)
		}
	}
}

// P1.3
func TestAll(t *testing.T) {
	for bits := 1; bits <= most; bits++ {
		if c := tern.All(bits); c.Text() != strings.Repeat("x", bits) || c != cube(t, strings.Repeat("x", bits)) {
			t.Errorf("All(%d) = %q", bits, c.Text())
		}
	}
	for _, bits := range []int{0, -1, most + 1, 1 << 40, -1 << 63, 1<<63 - 1} {
		if c := tern.All(bits); c != zero || c.Text() != "" {
			t.Errorf("All(%d) = %q", bits, c.Text())
		}
	}
}

// P1.4
func TestHas(t *testing.T) {
	for width := 1; width <= 3; width++ {
		for _, text := range cubesOf(width) {
			for _, h := range headersOf(width) {
				if cube(t, text).Has(h) != holds(text, h) {
					t.Errorf("%s Has %s", text, h)
				}
			}
		}
	}
	for _, h := range []string{"", "1", "10", "1000", "10x", "xxx", "102", "10 ", "10\x00", "\xff00", strings.Repeat("1", most+1)} {
		if cube(t, "10x").Has(h) || tern.All(3).Has(h) {
			t.Errorf("10x or xxx Has %q", h)
		}
	}
	for _, h := range []string{"", "0", "1", "x", strings.Repeat("0", most)} {
		if zero.Has(h) {
			t.Errorf("the zero cube Has %q", h)
		}
	}
}

// P1.4 at each place of the widest cube.
func TestHasLooksAtEveryPlace(t *testing.T) {
	ones := strings.Repeat("1", most)
	for place := range most {
		one := strings.Repeat("x", place) + "1" + strings.Repeat("x", most-1-place)
		lacking := ones[:place] + "0" + ones[place+1:]
		if c := cube(t, one); !c.Has(ones) || c.Has(lacking) {
			t.Errorf("a 1 at place %d alone", place)
		}
		if all := tern.All(most); !all.Has(lacking) || all.Has(ones[:place]+"x"+ones[place+1:]) {
			t.Errorf("all x, at place %d", place)
		}
	}
}

// P1.5
func TestMeet(t *testing.T) {
	everyPair(func(a, b string) {
		m, ok := cube(t, a).Meet(cube(t, b))
		want, wantOK := meetText(a, b)
		if m.Text() != want || ok != wantOK {
			t.Fatalf("%s Meet %s = %q, %v", a, b, m.Text(), ok)
		}
		if len(a) > 3 {
			return
		}
		for _, h := range headersOf(len(a)) {
			if m.Has(h) != (holds(a, h) && holds(b, h)) {
				t.Fatalf("%s Meet %s, header %s", a, b, h)
			}
		}
	})
	for _, p := range unfit(t) {
		if m, ok := p[0].Meet(p[1]); ok || m != zero {
			t.Errorf("%q Meet %q = %q, %v", p[0].Text(), p[1].Text(), m.Text(), ok)
		}
	}
}

// P1.6
func TestWithin(t *testing.T) {
	everyPair(func(a, b string) {
		got := cube(t, a).Within(cube(t, b))
		if got != withinText(a, b) {
			t.Fatalf("%s Within %s = %v", a, b, got)
		}
		if len(a) > 3 {
			return
		}
		lacks := func(h string) bool { return !holds(b, h) }
		if got == slices.ContainsFunc(membersOf(a), lacks) {
			t.Fatalf("%s Within %s = %v, by the headers", a, b, got)
		}
	})
	for _, p := range unfit(t) {
		if p[0].Within(p[1]) {
			t.Errorf("%q Within %q", p[0].Text(), p[1].Text())
		}
	}
}

// P1.7
func TestSplit(t *testing.T) {
	everyPair(func(a, b string) {
		c, d := cube(t, a), cube(t, b)
		pieces := c.Split(d)
		if texts(pieces) != strings.Join(splitText(a, b), ",") {
			t.Fatalf("%s Split %s = %s", a, b, texts(pieces))
		}
		if (len(pieces) == 0) != c.Within(d) {
			t.Fatalf("%s Split %s: %d cubes", a, b, len(pieces))
		}
		if len(a) > 3 {
			return
		}
		for _, h := range headersOf(len(a)) {
			n := 0
			for _, p := range pieces {
				if p.Has(h) {
					n++
				}
			}
			if want := holds(a, h) && !holds(b, h); n > 1 || (n == 1) != want {
				t.Fatalf("%s Split %s: header %s in %d cubes", a, b, h, n)
			}
		}
	})
	for _, p := range unfit(t) {
		if l := p[0].Split(p[1]); len(l) != 1 || l[0] != p[0] {
			t.Errorf("%q Split %q = %q", p[0].Text(), p[1].Text(), texts(l))
		}
	}
}

// P1.7: the most cubes that a split can give.
func TestSplitAtEveryPlace(t *testing.T) {
	header := strings.Repeat("01", most/2)
	pieces := tern.All(most).Split(cube(t, header))
	if len(pieces) != most || texts(pieces) != strings.Join(splitText(strings.Repeat("x", most), header), ",") {
		t.Errorf("%d cubes: %s", len(pieces), texts(pieces))
	}
}

// P1.8
func TestWrite(t *testing.T) {
	everyPair(func(a, r string) {
		w := cube(t, a).Write(cube(t, r))
		if w.Text() != writeText(a, r) {
			t.Fatalf("%s Write %s = %q", a, r, w.Text())
		}
		if len(a) > 3 {
			return
		}
		var made []string
		for _, h := range membersOf(a) {
			made = append(made, writeText(h, r))
		}
		slices.Sort(made)
		if !slices.Equal(slices.Compact(made), membersOf(w.Text())) {
			t.Fatalf("%s Write %s has not the headers that come of it", a, r)
		}
	})
	for _, p := range unfit(t) {
		if w := p[0].Write(p[1]); w != zero {
			t.Errorf("%q Write %q = %q", p[0].Text(), p[1].Text(), w.Text())
		}
	}
}

// P1.9
func TestBefore(t *testing.T) {
	everyPair(func(a, r string) {
		b, ok := cube(t, a).Before(cube(t, r))
		want, wantOK := beforeText(a, r)
		if b.Text() != want || ok != wantOK {
			t.Fatalf("%s Before %s = %q, %v", a, r, b.Text(), ok)
		}
		if len(a) > 3 {
			return
		}
		for _, h := range headersOf(len(a)) {
			if b.Has(h) != holds(a, writeText(h, r)) {
				t.Fatalf("%s Before %s, header %s", a, r, h)
			}
		}
	})
	for _, p := range unfit(t) {
		if b, ok := p[0].Before(p[1]); ok || b != zero {
			t.Errorf("%q Before %q = %q, %v", p[0].Text(), p[1].Text(), b.Text(), ok)
		}
	}
}

// P1.10
func TestHull(t *testing.T) {
	everyPair(func(a, b string) {
		h, e := tern.Hull(cube(t, a), cube(t, b))
		if e != api.OK || h.Text() != hullText(a, b) {
			t.Fatalf("Hull(%s, %s) = %q, %d", a, b, h.Text(), e)
		}
		if one, e := tern.Hull(cube(t, a)); e != api.OK || one != cube(t, a) {
			t.Fatalf("Hull(%s) = %q, %d", a, one.Text(), e)
		}
	})
	for _, a := range cubesOf(2) {
		for _, b := range cubesOf(2) {
			for _, c := range cubesOf(2) {
				h, e := tern.Hull(cube(t, a), cube(t, b), cube(t, c))
				if e != api.OK || h.Text() != hullText(hullText(a, b), c) {
					t.Fatalf("Hull(%s, %s, %s) = %q, %d", a, b, c, h.Text(), e)
				}
				for _, around := range cubesOf(2) {
					all := withinText(a, around) && withinText(b, around) && withinText(c, around)
					if all != h.Within(cube(t, around)) {
						t.Fatalf("Hull(%s, %s, %s) is not the least: %s", a, b, c, around)
					}
				}
			}
		}
	}
}

// P1.10, W3, W5
func TestHullOfWhatDoesNotFit(t *testing.T) {
	one, two := cube(t, "1"), cube(t, "10")
	for _, list := range [][]tern.Cube{{zero}, {zero, zero}, {zero, one}, {one, zero}, {one, one, zero}, {one, two}, {two, one}, {one, one, two}, {two, zero, one}, {tern.All(most), tern.All(most - 1)}} {
		if h, e := tern.Hull(list[0], list[1:]...); e != api.ErrWidth || h != zero {
			t.Errorf("Hull(%s) = %q, %d", texts(list), h.Text(), e)
		}
	}
	for _, more := range [][]tern.Cube{nil, {}} {
		if h, e := tern.Hull(two, more...); e != api.OK || h != two {
			t.Errorf("Hull of one cube and an empty list: %q, %d", h.Text(), e)
		}
	}
}

// P1.10: any number of cubes; W6: the list stays as it was, its spare room too.
func TestHullOfManyLeavesTheList(t *testing.T) {
	list := make([]tern.Cube, 0, 5000)
	for i := range cap(list) {
		list = append(list, cube(t, []string{"0011x", "0010x", "00110"}[i%3]))
	}
	before := slices.Clone(list)
	h, e := tern.Hull(cube(t, "00111"), list[:4000]...)
	if e != api.OK || h.Text() != "001xx" || !slices.Equal(list, before) {
		t.Errorf("%q, %d", h.Text(), e)
	}
}

// P1.11
func TestMembers(t *testing.T) {
	for width := 1; width <= 4; width++ {
		for _, text := range cubesOf(width) {
			if got := slices.Collect(cube(t, text).Members()); !slices.Equal(got, membersOf(text)) {
				t.Errorf("Members of %s: %v", text, got)
			}
		}
	}
	for range zero.Members() {
		t.Error("the zero cube has a member")
	}
	header := strings.Repeat("10", most/2)
	if got := slices.Collect(cube(t, header).Members()); len(got) != 1 || got[0] != header {
		t.Errorf("Members of a header: %v", got)
	}
}

// P1.11: over the borders of the words, the count goes on.
func TestMembersWhenWide(t *testing.T) {
	for _, group := range wide() {
		for _, text := range group {
			last := ""
			n := 0
			for h := range cube(t, text).Members() {
				if !holds(text, h) || h <= last {
					t.Fatalf("Members of %s: %s behind %s", text, h, last)
				}
				last = h
				if n++; n == 1 && h != strings.ReplaceAll(text, "x", "0") {
					t.Fatalf("Members of %s begins with %s", text, h)
				}
				if n == 40 {
					break
				}
			}
			if free := strings.Count(text, "x"); free < 6 && n != min(40, 1<<free) {
				t.Errorf("Members of %s: %d", text, n)
			}
		}
	}
	zeros, ones := strings.Repeat("0", 126), strings.Repeat("1", most-129)
	var want []string
	for _, h := range headersOf(3) {
		want = append(want, h[:1]+zeros+h[1:2]+ones+h[2:])
	}
	if got := slices.Collect(cube(t, "x"+zeros+"x"+ones+"x").Members()); !slices.Equal(got, want) {
		t.Errorf("three free places far from one another: %v", got)
	}
}

// P1.11, W1: stopped at any header, nothing more is handed on.
func TestMembersStops(t *testing.T) {
	for _, text := range []string{"x", "x0x", "1", strings.Repeat("x", most)} {
		for stop := 1; stop <= 3; stop++ {
			n := 0
			cube(t, text).Members()(func(string) bool {
				n++
				return n != stop
			})
			if n > stop {
				t.Errorf("Members of %s, stopped at %d: %d", text, stop, n)
			}
		}
	}
	last, n := "", 0
	for h := range tern.All(most).Members() {
		last = h
		if n++; n == 6 {
			break
		}
	}
	if last != strings.Repeat("0", most-3)+"101" {
		t.Errorf("the sixth of all: %s", last)
	}
}

// P1.11: again, one inside another, side by side, and by turns: each loop begins at the least.
func TestMembersManyTimes(t *testing.T) {
	seq := cube(t, "x0x").Members()
	want := []string{"000", "001", "100", "101"}
	for range seq {
		break
	}
	for range 2 {
		if got := slices.Collect(seq); !slices.Equal(got, want) {
			t.Errorf("again: %v", got)
		}
	}
	var outer, inner []string
	for a := range seq {
		outer = append(outer, a)
		for b := range seq {
			inner = append(inner, b)
		}
	}
	if !slices.Equal(outer, want) || !slices.Equal(inner, slices.Repeat(want, len(want))) {
		t.Errorf("one inside another: %v, %v", outer, inner)
	}
	next, stop := iter.Pull(seq)
	defer stop()
	other, end := iter.Pull(seq)
	defer end()
	for _, w := range want {
		if a, _ := next(); a != w {
			t.Errorf("by turns: %s, want %s", a, w)
		}
		if b, _ := other(); b != w {
			t.Errorf("by turns: %s, want %s", b, w)
		}
	}
	var all sync.WaitGroup
	for range 8 {
		all.Go(func() {
			if got := slices.Collect(seq); !slices.Equal(got, want) {
				t.Errorf("side by side: %v", got)
			}
		})
	}
	all.Wait()
}

// P1.12, W6, W7
func TestSplitAnswersNewMemory(t *testing.T) {
	mark := cube(t, "0")
	for _, pair := range [][2]string{{"xxxx", "0101"}, {"1xxx", "0xxx"}, {"1xxx", "10x0"}, {"1x1x", "1"}, {"10xx", "1xxx"}, {"xxxxxxxx", "01010"}} {
		c, d := cube(t, pair[0]), cube(t, pair[1])
		first, second := c.Split(d), c.Split(d)
		want := texts(second)
		room := first[:cap(first)]
		for i := range room {
			room[i] = mark
		}
		grown := append(second[:len(second):cap(second)], mark)
		third := c.Split(d)
		if texts(second) != want || texts(third) != want || grown[len(second)] != mark {
			t.Errorf("%s Split %s: %s, then %s, want %s", pair[0], pair[1], texts(second), texts(third), want)
		}
		if c.Text() != pair[0] || d.Text() != pair[1] {
			t.Errorf("a cube was changed: %s, %s", c.Text(), d.Text())
		}
	}
}

// The examples of the chapter.
func TestExamples(t *testing.T) {
	c := func(text string) tern.Cube { return cube(t, text) }
	first := func(a tern.Cube, _ bool) tern.Cube { return a }
	for name, p := range map[string][2]string{
		"1xx Meet x0x":   {first(c("1xx").Meet(c("x0x"))).Text(), "10x"},
		"1xx Meet 0xx":   {first(c("1xx").Meet(c("0xx"))).Text(), ""},
		"xxx Split x01":  {texts(c("xxx").Split(c("x01"))), "x1x,x00"},
		"1xx Split 101":  {texts(c("1xx").Split(c("101"))), "11x,100"},
		"101 Split 1xx":  {texts(c("101").Split(c("1xx"))), ""},
		"1xx Split 0xx":  {texts(c("1xx").Split(c("0xx"))), "1xx"},
		"1xx Split 10":   {texts(c("1xx").Split(c("10"))), "1xx"},
		"10x Write x1x":  {c("10x").Write(c("x1x")).Text(), "11x"},
		"10x Before x0x": {first(c("10x").Before(c("x0x"))).Text(), "1xx"},
		"10x Before x1x": {first(c("10x").Before(c("x1x"))).Text(), ""},
		"1xx Before x01": {first(c("1xx").Before(c("x01"))).Text(), "1xx"},
		"Members of x0x": {strings.Join(slices.Collect(c("x0x").Members()), ","), "000,001,100,101"},
	} {
		if p[0] != p[1] {
			t.Errorf("%s is %q, want %q", name, p[0], p[1])
		}
	}
	if !c("10x").Within(c("1xx")) || c("1xx").Within(c("10x")) {
		t.Error("10x Within 1xx, or the other way round")
	}
	if !c("10x").Has("101") || c("10x").Has("111") || c("10x").Has("10") || c("10x").Has("10x") {
		t.Error("10x Has")
	}
	if h, e := tern.Hull(c("101"), c("111"), c("100")); h.Text() != "1xx" || e != api.OK {
		t.Errorf("Hull(101, 111, 100) = %q, %d", h.Text(), e)
	}
	if h, e := tern.Hull(c("101"), c("11")); h != zero || e != api.ErrWidth {
		t.Errorf("Hull(101, 11) = %q, %d", h.Text(), e)
	}
}
