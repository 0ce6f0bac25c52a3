package trail_test

// P14.2: the text that a pattern tells.

import (
	"fmt"
	"testing"

	"reach/api"
	"reach/trail"
)

func TestTexts(t *testing.T) {
	for text, want := range map[string]string{
		"": "", " ": "", "(())": "", "()()": "", "( ( ) ( ) )": "",
		"|": "() | ()", "||": "() | () | ()", "a|": "a | ()", "|a": "() | a", "()|a": "() | a", "(())|(a)": "() | a", "(|)": "() | ()", "(|)|": "() | () | ()", "a||b": "a | () | b",
		"()*": "()*", "(())*": "()*", "(()())+": "()+", "()*a": "()* a", "a()?b": "a ()? b", "()*|()": "()* | ()", "(()*)+": "()*+", "(|)*": "(() | ())*", "a()": "a", "()a": "a", "(()a)*": "a*", "(a())b": "a b",
		"(a)": "a", "((a))": "a", "(.)": ".", "(!a)": "!a", "(a.b)": "a.b", "(a)*": "a*", "((a))*": "a*", "(.)+": ".+", "(!a.b)?": "!a.b?",
		"(a b)": "a b", "(a b)c": "a b c", "a(b c)": "a b c", "a(b(c d)e)f": "a b c d e f", "(a b)*": "(a b)*", "((a b))*": "(a b)*", "((a)(b))*": "(a b)*", "a(b c)*d": "a (b c)* d",
		"(a|b)": "a | b", "((a|b))": "a | b", "(a|b)|c": "a | b | c", "a|(b|c)": "a | b | c", "a|((b|c)|d)|e": "a | b | c | d | e", "(a|b)(c|d)": "(a | b) (c | d)", "a(b|c)": "a (b | c)", "(a|b)*": "(a | b)*", "((a|b))*": "(a | b)*", "((a|b)|c)*": "(a | b | c)*", "(a|b)*|c": "(a | b)* | c",
		"(a|b)()": "a | b", "()(a|b)": "a | b", "()(a|b)()|c": "a | b | c", "((a|b)())*": "(a | b)*", "(a|b)()*": "(a | b) ()*", "((a|b)c)": "(a | b) c", "((a|b)c)*": "((a | b) c)*", "a|(b c)|d": "a | b c | d", "a|(b (c|d))": "a | b (c | d)",
		"(a*)": "a*", "(a*)+": "a*+", "((a*)+)?": "a*+?", "((a b)*)?": "(a b)*?", "((a|b)+)*": "(a | b)+*", "(a*b)+": "(a* b)+", "(a*|b)+": "(a* | b)+", "(a* )(b+)": "a* b+", "(a*)b": "a* b",
		"a.b.c": "a.b . c", "a .b": "a . b", "...": ". . .", ".*.*": ".* .*", "a!b": "a !b", "a  |  b": "a | b", "( a )": "a", "(a  b) *": "(a b)*", "a* *": "a**",
	} {
		check(t, "P14.2: "+text, reading(text), quoted(want))
		check(t, "the second telling: "+text, told(text), want)
	}
}

// All texts of a few pieces that have to do with the grouping.
func TestAllTextsOfAFewPieces(t *testing.T) {
	read := 0
	texts(8, []string{"a", "*", "|", "(", ")"}, func(text string) {
		if refusedAt(text) < 0 {
			read++
			check(t, "P14.2: "+text, reading(text), quoted(told(text)))
		}
	})
	if read < 15000 {
		t.Errorf("the trial shows less than it should: %d", read)
	}
}

// isRead: whether Compile must read a text that is told.
func isRead(text string) bool {
	depth, most := 0, 0
	for _, b := range text {
		switch b {
		case '(':
			depth++
		case ')':
			depth--
		}
		most = max(most, depth)
	}
	return len(text) <= api.MaxPattern && most <= api.MaxDepth
}

// What is told is read again, with the same text; and it means the same lists.
func TestWhatIsToldIsReadAgain(t *testing.T) {
	s := source(12)
	names := alphabet{"a.1", "b.1", "b.2", "c.1"}
	again := 0
	for range 3000 {
		text := s.legal(7, s.leaves("a", "b", "b.2"))
		p := compiled(t, text)
		if !isRead(p.Text()) {
			continue
		}
		q := compiled(t, p.Text())
		again++
		check(t, "P14.2: "+text, q.Text(), p.Text())
		for range 30 {
			list := s.names(names, s.below(6))
			if p.Match(list) != q.Match(list) {
				t.Fatalf("P14.2: %q and %q mean not the same: %q", text, p.Text(), list)
			}
		}
	}
	if again < 2500 {
		t.Errorf("the trial shows less than it should: %d", again)
	}
}

// Texts that are longer than what was read, by their spaces and by the brackets of empty sequences: what is too long then is told all the same.
func TestTextsThatGrow(t *testing.T) {
	check(t, "P14.2", reading(many(48, "|")), quoted(many(48, "() | ")+"()"))
	check(t, "P14.2", reading(many(24, ".|")), quoted(many(24, ". | ")+"()"))
	for count, again := range map[int]string{42: quoted(items(42, "!abcd")), 43: "error 2 at 0", 48: "error 2 at 0"} {
		p := compiled(t, many(count, "!abcd"))
		check(t, "P14.2", p.Text(), items(count, "!abcd"))
		check(t, fmt.Sprint("P14.2: ", len(p.Text()), " bytes"), reading(p.Text()), again)
	}
	// As deep as items can make it.
	deep := many(16, "(a") + "(|)*" + many(16, ")+")
	check(t, "P14.2", reading(deep), quoted(many(15, "(a ")+"(a (() | ())*)+"+many(15, ")+")))
	check(t, "P14.2", reading(told(deep)), quoted(told(deep)))
}

func TestTextOfNoPattern(t *testing.T) {
	var none *trail.Pattern
	if none.Text() != "" || (&trail.Pattern{}).Text() != "" || new(trail.Pattern).Text() != "" {
		t.Errorf("P14.3: %q, %q", none.Text(), new(trail.Pattern).Text())
	}
}
