package trail_test

// P14.3: which lists a pattern means.

import (
	"strings"
	"sync"
	"testing"

	"reach/trail"
)

// names: so many of these, mixed.
func (s *source) names(of []string, count int) []string {
	var list []string
	for range count {
		list = append(list, of[s.below(len(of))])
	}
	return list
}

// lists: all of up to so many names.
func lists(most int, names []string) [][]string {
	all := [][]string{nil}
	for from, round := 0, 0; round < most; round++ {
		end := len(all)
		for _, list := range all[from:end] {
			for _, name := range names {
				all = append(all, append(list[:len(list):len(list)], name))
			}
		}
		from = end
	}
	return all
}

func checkMatch(t *testing.T, text string, names []string, want bool) {
	t.Helper()
	if got := compiled(t, text).Match(names); got != want {
		t.Errorf("P14.3: %q means %q: %v", text, names, got)
	}
}

// oddNames: what may come as a name, though no port has it.
func oddNames() []string {
	return []string{"", ".", "a", "a.", "a.b", "a.b.c", "a.bc", "a.B", "A.b", "ab", "ab.b", "ab.", ".a", ".a.b", " a.b", "a.b ", "a .b", "a. b", "!a", "!a.b", "a..b", "aa.b", "b.a", "b", "b.", "a.\xff", "\xff", "\x00", "a\x00.b", "é.b", "a.é", "*", "a.*", "(", "a.b|b.a", many(1000, "a"), "a." + many(1000, "a")}
}

// What one leaf means.
func TestLeaves(t *testing.T) {
	for _, name := range oddNames() {
		one := []string{name}
		box := strings.HasPrefix(name, "a.")
		checkMatch(t, ".", one, true)
		checkMatch(t, "a", one, box)
		checkMatch(t, "!a", one, !box)
		checkMatch(t, "a.b", one, name == "a.b")
		checkMatch(t, "!a.b", one, name != "a.b")
		checkMatch(t, "ab", one, name == "ab.b" || name == "ab.")
		checkMatch(t, "(a)", one, box)
		checkMatch(t, "a|b", one, box || name == "b.a" || name == "b.")
		checkMatch(t, "!a|a", one, true)
		checkMatch(t, "", one, false)
		checkMatch(t, "()", one, false)
		checkMatch(t, ". .", one, false)
		checkMatch(t, "!a.b*", []string{name, name}, name != "a.b")
		checkMatch(t, ". a .", []string{name, name, name}, box)
	}
	for _, text := range []string{".", "a", "a.b", "!a", "!a.b", ". .", "a+", ".+", "a|b"} {
		checkMatch(t, text, nil, false)
		checkMatch(t, text, []string{}, false)
	}
}

func TestSuffixesAndChoices(t *testing.T) {
	for _, e := range []struct {
		text, yes, no string // lists of names between semicolons
	}{
		{"a*", ";a.1;a.1 a.2;a.1 a.1 a.1", "b.1;a.1 b.1;b.1 a.1;a.1 b.1 a.1"},
		{"a+", "a.1;a.1 a.2", ";b.1;a.1 b.1"},
		{"a?", ";a.1", "a.1 a.1;b.1"},
		{"a b", "a.1 b.1", ";a.1;b.1;b.1 a.1;a.1 b.1 a.1;a.1 a.1 b.1"},
		{"a|b", "a.1;b.1", ";a.1 b.1;c.1"},
		{"a b|c", "a.1 b.1;c.1", "a.1;b.1;a.1 c.1;a.1 b.1 c.1"},
		{"a(b|c)", "a.1 b.1;a.1 c.1", "a.1;c.1;a.1 b.1 c.1"},
		{"a|", ";a.1", "a.1 a.1;b.1"},
		{"(a|b)*", ";a.1;b.1;b.1 a.1 b.1", "c.1;a.1 c.1"},
		{"(a b)*", ";a.1 b.1;a.1 b.1 a.1 b.1", "a.1;b.1 a.1;a.1 b.1 a.1"},
		{"(a b)+", "a.1 b.1;a.1 b.1 a.1 b.1", ";a.1;b.1 a.1"},
		{"(a b)?", ";a.1 b.1", "a.1;b.1;a.1 b.1 a.1 b.1"},
		{"a*?", ";a.1;a.1 a.1", "b.1"},
		{"a+?", ";a.1;a.1 a.1", "b.1"},
		{"a?+", ";a.1;a.1 a.1", "b.1"},
		{"a?*", ";a.1;a.1 a.1", "b.1"},
		{"a+*", ";a.1;a.1 a.1", "b.1"},
		{"a++", "a.1;a.1 a.1", ";b.1"},
		{"a??", ";a.1", "a.1 a.1"},
		{"a b*", "a.1;a.1 b.1;a.1 b.1 b.1", ";b.1;a.1 b.1 a.1"},
		{"()*", "", "a.1"}, {"()+", "", "a.1"}, {"()?", "", "a.1"}, {"(|)*", "", "a.1"}, {"()+ a", "a.1", ";a.1 a.1"},
		{"(a?)*", ";a.1;a.1 a.1", "b.1"}, {"(a*)*", ";a.1;a.1 a.1", "b.1"}, {"(a*b*)*", ";a.1;b.1;b.1 a.1 a.1 b.1", "c.1;a.1 c.1"}, {"(()|a)+", ";a.1;a.1 a.1", "b.1"},
		{"!a*", ";b.1;b.1 c.1", "a.1;b.1 a.1"}, {"!a !b", "b.1 a.1;c.1 c.1", "a.1 a.1;b.1 b.1;c.1"},
		{".*", ";a.1;a.1 b.1 c.1", "-"}, {".* a .*", "a.1;b.1 a.1;a.1 b.1;b.1 a.1 c.1", ";b.1;b.1 c.1"}, {".* a", "a.1;b.1 a.1;a.1 a.1", ";a.1 b.1"}, {"a .*", "a.1;a.1 b.1", ";b.1 a.1"},
	} {
		for _, line := range strings.Split(e.yes, ";") {
			checkMatch(t, e.text, strings.Fields(line), true)
		}
		if e.no == "-" {
			continue
		}
		for _, line := range strings.Split(e.no, ";") {
			checkMatch(t, e.text, strings.Fields(line), false)
		}
	}
}

// All patterns of a few pieces, with all short lists.
func TestAllPatternsOfAFewPieces(t *testing.T) {
	names := alphabet{"a.1", "b.1", "c.1"}
	all := lists(3, names)
	met := map[bool]int{}
	texts(5, []string{"a ", ".", "!b ", "*", "+", "?", "|", "(", ")"}, func(text string) {
		if refusedAt(text) >= 0 {
			return
		}
		p, e := compiled(t, text), names.expression(t, text)
		for _, list := range all {
			want := names.means(e, list)
			met[want]++
			if p.Match(list) != want {
				t.Fatalf("P14.3: %q means %q: %v", text, list, !want)
			}
		}
	})
	if met[true] < 10000 || met[false] < 10000 {
		t.Errorf("the trial shows less than it should: %v", met)
	}
}

// Mixed patterns of many parts, with mixed lists.
func TestMixedPatterns(t *testing.T) {
	s := source(13)
	names := alphabet{"a.1", "a.2", "b.1", "ab.1", "a", "", "b."}
	met := map[bool]int{}
	for range 3000 {
		text := s.legal(6, s.leaves("a", "a.2", "b"))
		p, e := compiled(t, text), names.expression(t, text)
		for range 40 {
			list := s.names(names, s.below(7))
			want := names.means(e, list)
			met[want]++
			if p.Match(list) != want {
				t.Fatalf("P14.3: %q means %q: %v", text, list, !want)
			}
		}
	}
	if met[true] < 20000 || met[false] < 20000 {
		t.Errorf("the trial shows less than it should: %v", met)
	}
}

func TestNoPatternMeansNothing(t *testing.T) {
	var none *trail.Pattern
	for _, list := range [][]string{nil, {}, {""}, {"a.b"}, make([]string, 1000)} {
		if none.Match(list) || (&trail.Pattern{}).Match(list) {
			t.Errorf("P14.3: %q", list)
		}
	}
}

// Long lists, and patterns that a search by trial and error would be lost in.
func TestLongLists(t *testing.T) {
	long := make([]string, 200000)
	for at := range long {
		long[at] = "a.b"
	}
	end := append(append([]string{}, long...), "b.b")
	for _, text := range []string{"a*", "(a*)*", "((a*)+)*", "(a?a?)*", many(15, "(a?") + many(15, ")*"), "(" + many(23, "a?") + ")*", "(a*|a)*", "(a|a a|a a a)*", "(()|a)+", many(24, "a*"), many(31, "(") + "a*" + many(31, ")+")} {
		if refusedAt(text) >= 0 {
			t.Fatalf("%q is refused", text)
		}
		checkMatch(t, text, long, true)
		checkMatch(t, text, end, false)
		if refusedAt("("+text+")b") < 0 {
			checkMatch(t, "("+text+")b", end, true)
			checkMatch(t, "("+text+")b", long, false)
		}
	}
	checkMatch(t, many(48, ". "), long[:48], true)
	checkMatch(t, many(48, ". "), long[:47], false)
	checkMatch(t, many(48, ". "), long[:49], false)
	checkMatch(t, "b", long, false)
}

// A pattern keeps nothing of what it was asked, and many may ask it at the same time.
func TestManyAtTheSameTime(t *testing.T) {
	s := source(14)
	names := alphabet{"a.1", "b.1", "c.1"}
	p, e := compiled(t, "(a b|c)* a? !c+"), names.expression(t, "(a b|c)* a? !c+")
	var work sync.WaitGroup
	for range 16 {
		var asked [][]string
		for range 300 {
			asked = append(asked, s.names(names, s.below(7)))
		}
		work.Go(func() {
			for _, list := range asked {
				if p.Match(list) != names.means(e, list) || p.Text() != "(a b | c)* a? !c+" {
					t.Errorf("W2: %q, %q", list, p.Text())
				}
			}
		})
	}
	work.Wait()
}
