package trail_test

// P14.1: what Compile refuses, and where.

import (
	"fmt"
	"strings"
	"testing"

	"reach/api"
	"reach/trail"
)

func many(count int, text string) string { return strings.Repeat(text, count) }

// checkReading: what Compile says of a text that is not too long, by the second telling.
func checkReading(t *testing.T, text string) bool {
	t.Helper()
	at := refusedAt(text)
	want := refusal(at)
	if at < 0 {
		want = quoted(told(text))
	}
	if got := reading(text); got != want {
		t.Fatalf("P14.1, P14.2: Compile(%q): %s; want %s", text, got, want)
	}
	return at < 0
}

// All texts of a few bytes, of all kinds of bytes.
func TestAllShortTexts(t *testing.T) {
	read := 0
	texts(5, strings.Split("a. !*?|()1$", ""), func(text string) {
		if checkReading(t, text) {
			read++
		}
	})
	if read < 5000 {
		t.Errorf("the trial shows less than it should: %d", read)
	}
}

// Every byte begins a piece, or is refused, or is a blank; and within a name, behind a dot and a denial.
func TestAllBytes(t *testing.T) {
	for b := range 256 {
		one := string([]byte{byte(b)})
		for _, ahead := range []string{"", "a", "a ", "a.", "a.b", "a.b.", "!", "!a", "!a.", "(", "(a", "a|"} {
			for _, behind := range []string{"", "a", " ", ".", "1", ")", "*"} {
				checkReading(t, ahead+one+behind)
			}
		}
	}
	for b := range 256 {
		letter := b == '_' || 'a' <= b && b <= 'z' || 'A' <= b && b <= 'Z'
		one := string([]byte{byte(b)})
		switch got := reading(one); {
		case letter || b == '.':
			check(t, "P14.1", got, quoted(one))
		case b == ' ':
			check(t, "P14.1", got, quoted(""))
		case b == '|':
			check(t, "P14.1", got, quoted("() | ()"))
		case b == '!' || b == '(':
			check(t, "P14.1", got, refusal(1))
		default:
			check(t, "P14.1", got, refusal(0))
		}
		if letter || '0' <= b && b <= '9' {
			check(t, "P14.1", reading("a"+one), quoted("a"+one))
			check(t, "P14.1", reading("!_"+one+".b"+one), quoted("!_"+one+".b"+one))
		}
	}
}

func TestNamesAreCut(t *testing.T) {
	for text, want := range map[string]string{
		"a.b": "a.b", "a .b": "a . b", "a. b": "a . b", "a . b": "a . b", "a.b.c": "a.b . c", "a.b.c.d": "a.b . c.d", "a..b": "a . . b", "a...b": "a . . . b", ".a": ". a", ".a.b": ". a.b", "a.": "a .", "a.b.": "a.b .", "a.*": "a .*", "a.b*": "a.b*", "a.!b": "a . !b", "a.(b)": "a . b", "a.|b": "a . | b", "!a.b": "!a.b", "!a.b.c": "!a.b . c", "!a.": "!a .", "a!b": "a !b", "a!b.c!d": "a !b.c !d", "a1.b2": "a1.b2", "_._": "_._", "A_9.z_0": "A_9.z_0", "a1_b": "a1_b", "a._1": "a._1",
		"a(b)c": "a b c", "a|b.c": "a | b.c", "a?b": "a? b", "  a   b  ": "a b", " ( a | b ) * ": "(a | b)*", "a +": "a+", "a * * *": "a***",
	} {
		check(t, "P14.1: "+text, reading(text), quoted(want))
	}
	for text, at := range map[string]int{
		"a.1": 2, "a.b.1": 4, "1a": 0, "a 1": 2, ".1": 1, "! a": 1, "!1": 1, "!.": 1, "!.a": 1, "!!a": 1, "!(a)": 1, "!*": 1, "!|": 1, "!)": 1, "a!": 2, "a !": 3, "(!": 2, "(a|!": 4, "!\n": 1, "a\n": 1, "\ta": 0, "a\tb": 1, "a\rb": 1, "é": 0, "aé": 1, "a.é": 2, "a\xff": 1, "a\x00": 1, "a-b": 1, "a,b": 1, "[a]": 0, "a{2}": 1, "^a": 0, "a$": 1, "\\": 0, "a&b": 1, "\"a\"": 0, "a\u00a0b": 1,
	} {
		check(t, "P14.1: "+text, reading(text), refusal(at))
	}
}

func TestSuffixesAndBrackets(t *testing.T) {
	for text, at := range map[string]int{
		"*": 0, "+": 0, "?": 0, " *": 1, "(*)": 1, "( +)": 2, "|?": 1, "a|*": 2, "a | *": 4, "(a|*)": 3, "((a)|+)": 5, "a(*": 2, "()|*": 3, "a (?)": 3,
		")": 0, "a)": 1, "())": 2, "(a))b": 3, "a)(": 1, "|)": 1, " )": 1, "*)": 0, ")*": 0,
		"(": 1, "(a": 2, "(a|": 3, "(a|b": 4, "((a)": 4, "( ": 2, "a (": 3, "(()": 3, "()(": 3,
		// The first one counts.
		"(*": 1, "($": 1, "a)$": 1, "a$)": 1, "$!": 0, "!$": 1, "(a!": 3,
	} {
		check(t, "P14.1: "+text, reading(text), refusal(at))
	}
	for _, text := range []string{"a*", "a**", "a*+?", "()*", "(|)*", "()()+", "(a)?", "(a*)*", "((a)+)?", "a|b*", "(a|b*)+", "!a*", ".+", "()?|()"} {
		if p, errno, at := trail.Compile(text); p == nil || errno != api.OK || at != 0 {
			t.Errorf("P14.1: Compile(%q) = %v, %d, %d", text, p, errno, at)
		}
	}
}

func TestNamesThatAreTooLong(t *testing.T) {
	most, long := many(api.MaxName, "a"), many(api.MaxName+1, "a")
	for _, name := range []string{most, most + "." + most, "b." + most, most + ".b", "!" + most, "!" + most + "." + most, "!b." + most, most + "." + " " + most, most + ". ." + most} {
		if p, errno, at := trail.Compile(name); p == nil || errno != api.OK || at != 0 {
			t.Errorf("P14.1: Compile(%q) = %v, %d, %d", name, p, errno, at)
		}
	}
	for _, name := range []string{long, long + ".b", "b." + long, most + "." + long, long + "." + most, long + "." + long, long + ".", long + "9", many(200, "Z9_")[:250]} {
		for at, ahead := range map[int]string{0: "", 3: "b (", 1: " ", 2: ".|"} {
			check(t, "P14.1", reading(ahead+name), refusal(at))
			check(t, "P14.1", reading(ahead+"!"+name), refusal(at+1))
		}
	}
	// A dot that no letter comes behind ends the name.
	check(t, "P14.1", reading("b.1"+long), refusal(2))
	check(t, "P14.1", reading("b. "+long), refusal(3))
	check(t, "P14.1", reading("b.c."+long), refusal(4))
	check(t, "P14.1", reading("b.c."+most+"."+long), refusal(4))
}

// items: so many of them.
func items(count int, one string) string { return strings.TrimSuffix(many(count, one+" "), " ") }

func TestTooManyItems(t *testing.T) {
	full := items(api.MaxItems, "a")
	over := len(full) + 1
	check(t, "P14.1", reading(full), quoted(full))
	check(t, "P14.1", reading(full+" ()()( )"), quoted(full))
	check(t, "P14.1", reading("("+full+")"), quoted(full))
	for _, next := range []string{".", "b", "b.c", "!b", "!b.c", "*", "+", "?", "|", "!", "!$", "!!", "! b", "!" + many(25, "b"), many(25, "b"), "*)", "|)", "$", ")", "1"} {
		check(t, "P14.1: "+next, reading(full+" "+next), refusal(over))
	}
	// A bracket is no item, and what is in it may be.
	check(t, "P14.1", reading(full+" (.)"), refusal(over+1))
	check(t, "P14.1", reading(full+" ("), refusal(over+1))
	// A denial and its name are one item.
	check(t, "P14.1", reading(full[2:]+" !b.c"), quoted(full[2:]+" !b.c"))
	check(t, "P14.1", reading(full[2:]+" !b.c*"), refusal(over+2))
	check(t, "P14.1", reading(full[2:]+" !b.c ."), refusal(over+3))
	for one, count := range map[string]int{".": 48, "!a": 48, "a.b": 48, "!a.b": 48, "a*": 24, "!a+": 24, ".?*": 16, "(a|b)*": 12} {
		if p, errno, _ := trail.Compile(items(count, one)); p == nil || errno != api.OK {
			t.Errorf("P14.1: %d of %s are refused: %d", count, one, errno)
		}
		check(t, "P14.1: "+one, reading(items(count, one)+" ."), refusal(len(items(count, one))+1))
	}
	for _, sign := range []string{"*", "+", "?"} {
		check(t, "P14.1", reading("a"+many(api.MaxItems-1, sign)), quoted("a"+many(api.MaxItems-1, sign)))
		check(t, "P14.1", reading("a"+many(api.MaxItems, sign)), refusal(api.MaxItems))
	}
	check(t, "P14.1", reading(many(api.MaxItems, "|")), quoted(many(api.MaxItems, "() | ")+"()"))
	check(t, "P14.1", reading(many(api.MaxItems+1, "|")), refusal(api.MaxItems))
}

func TestTooDeep(t *testing.T) {
	deep := func(open, shut int, inner string) string { return many(open, "(") + inner + many(shut, ")") }
	for _, inner := range []string{"", "a", "a|b", "a b*", "|"} {
		if p, errno, at := trail.Compile(deep(api.MaxDepth, api.MaxDepth, inner)); p == nil || errno != api.OK || at != 0 {
			t.Errorf("P14.1: as deep as may be: %d at %d", errno, at)
		}
		check(t, "P14.1", reading(deep(api.MaxDepth+1, api.MaxDepth+1, inner)), refusal(api.MaxDepth))
		check(t, "P14.1", reading(deep(api.MaxDepth, api.MaxDepth+1, inner)), refusal(2*api.MaxDepth+len(inner)))
		check(t, "P14.1", reading(deep(api.MaxDepth, api.MaxDepth-1, inner)), refusal(2*api.MaxDepth-1+len(inner)))
	}
	check(t, "P14.1", reading(deep(api.MaxDepth, 0, "")), refusal(api.MaxDepth))
	check(t, "P14.1", reading(deep(200, 0, "")), refusal(api.MaxDepth))
	check(t, "P14.1", reading(deep(api.MaxDepth, 0, "a (")), refusal(api.MaxDepth+2))
	// One that is closed is no more around.
	check(t, "P14.1", reading(deep(api.MaxDepth-1, api.MaxDepth-1, "()()a()")), quoted("a"))
	check(t, "P14.1", reading(many(api.MaxPattern/2, "()")), quoted(""))
}

func TestTextsThatAreTooLong(t *testing.T) {
	long := fmt.Sprint("error ", api.ErrLong, " at 0")
	check(t, "P14.1", reading(many(api.MaxPattern, " ")), quoted(""))
	for _, text := range []string{many(api.MaxPattern+1, " "), many(api.MaxPattern+1, "$"), "*" + many(api.MaxPattern, "a"), many(api.MaxPattern+1, "("), many(1<<20, "a "), many(1<<20, "\xff")} {
		check(t, "P14.1", reading(text), long)
	}
	check(t, "P14.1", reading(many(api.MaxPattern, "a")), refusal(0))
	check(t, "P14.1", reading(many(api.MaxPattern-1, " ")+"$"), refusal(api.MaxPattern-1))
	check(t, "P14.1", reading(many(api.MaxPattern-1, " ")+"!"), refusal(api.MaxPattern))
	check(t, "P14.1", reading(many(api.MaxPattern-1, " ")+"("), refusal(api.MaxPattern))
}

// Texts of many pieces, some of which are spoilt in a byte.
func TestMixedTexts(t *testing.T) {
	s := source(11)
	read := 0
	for range 30000 {
		text := s.pattern(s.below(6), s.leaves("a", "b.c", "Z_9", many(24, "n")+"."+many(24, "m")))
		if at := s.below(len(text) + 1); s.below(2) == 0 {
			odd := []string{"", " ", "(", ")", "|", "*", "!", ".", "$", "1", "\xff", many(25, "q"), many(33, "("), many(49, ".")}
			text = text[:at] + odd[s.below(len(odd))] + text[min(len(text), at+s.below(2)):]
		}
		if len(text) <= api.MaxPattern && checkReading(t, text) {
			read++
		}
	}
	if read < 8000 {
		t.Errorf("the trial shows less than it should: %d", read)
	}
}
