package scan_test

import (
	"strings"
	"testing"
	"unicode/utf8"

	"reach/api"
	"reach/scan"
)

// checkQuote holds Quote of a text against its second telling, and reads it back; P3.4, P3.6.
func checkQuote(t *testing.T, s string) {
	t.Helper()
	q, e := scan.Quote(s)
	if want := tellQuote(s); q != want || e != api.OK {
		t.Fatalf("P3.4: Quote(%q) = %s, %d; want %s", s, q, e, want)
	}
	if back, e, at := scan.Unquote(q); back != s || e != api.OK || at != 0 {
		t.Fatalf("P3.6: Unquote(%s) = %q, %d, %d; want %q", q, back, e, at, s)
	}
}

// checkUnquote holds Unquote of a text against its second telling; P3.5, P3.6.
func checkUnquote(t *testing.T, lit string) {
	t.Helper()
	s, e, at := scan.Unquote(lit)
	want, wantE, wantAt := tellUnquote(lit)
	if s != want || e != wantE || at != wantAt {
		t.Fatalf("P3.5: Unquote(%.200q) = %q, %d, %d; want %q, %d, %d", lit, s, e, at, want, wantE, wantAt)
	}
	if e == api.OK {
		checkQuote(t, s)
	}
}

func TestQuoteHasOneForm(t *testing.T) {
	for _, c := range [][2]string{
		{"", `""`},
		{"a b#'", `"a b#'"`},
		{"\"\\\n\r\t", `"\"\\\n\r\t"`},
		{"\x00\x08\x0b\x1f\x7f ~", `"\x00\x08\x0b\x1f\x7f ~"`},
		{"\x80\xff\xc3", `"\x80\xff\xc3"`},
		{"\xe2\x82", `"\xe2\x82"`},
		{"\xe2\x82\xac", "\"\u20ac\""},
		{"\xc0\x80\xed\xa0\x80", `"\xc0\x80\xed\xa0\x80"`},
		{"\xef\xbf\xbd\xef\xbf", "\"\ufffd\\xef\\xbf\""},
		{"\u0080\u009f\u00a0", "\"\\u{80}\\u{9f}\u00a0\""},
		{"\u200a\u200b\u200f\u2010", "\"\u200a\\u{200b}\\u{200f}\u2010\""},
		{"\u2027\u2028\u202e\u202f", "\"\u2027\\u{2028}\\u{202e}\u202f\""},
		{"\ufefe\ufeff\uff00", "\"\ufefe\\u{feff}\uff00\""},
		{"\U0010ffff\u00ad\u0300", "\"\U0010ffff\u00ad\u0300\""},
	} {
		if q, e := scan.Quote(c[0]); q != c[1] || e != api.OK {
			t.Errorf("P3.4: Quote(%q) = %s, %d; want %s", c[0], q, e, c[1])
		}
		checkQuote(t, c[0])
	}
}

func TestQuoteOfEveryCharacter(t *testing.T) {
	for b := range 256 {
		checkQuote(t, string([]byte{byte(b)}))
		checkQuote(t, string([]byte{'a', byte(b), 0xbf, 'b'}))
	}
	for r := rune(0); r <= 0x30000; r++ {
		if utf8.ValidRune(r) {
			checkQuote(t, string(r))
		}
	}
}

func TestQuoteKeepsTheBorder(t *testing.T) {
	for _, s := range []string{strings.Repeat("a", 256), strings.Repeat("\xff", 256), strings.Repeat("\u00e9", 128), strings.Repeat("\u200b", 85) + "\x7f"} {
		checkQuote(t, s)
		if q, e := scan.Quote(s + "\n"); q != "" || e != api.ErrString {
			t.Errorf("P3.4: Quote of %d bytes = %q, %d", len(s)+1, q, e)
		}
	}
	for _, n := range []int{16384, 16385, 1 << 20} {
		if q, e := scan.Quote(strings.Repeat("a", n)); q != "" || e != api.ErrString {
			t.Errorf("P3.4: Quote of %d bytes = %d bytes, %d", n, len(q), e)
		}
	}
}

func TestUnquoteReads(t *testing.T) {
	for _, c := range [][2]string{
		{`""`, ""},
		{`"a b#"`, "a b#"},
		{`"\"\\\n\r\t"`, "\"\\\n\r\t"},
		{`"\x00\xfF\xAb\x7f"`, "\x00\xff\xab\x7f"},
		{`"\xc3\xa9"`, "\u00e9"},
		{`"\u{0}\u{41}\u{e9}\u{000041}\u{10FFFF}\u{d7ff}\u{E000}"`, "\x00A\u00e9A\U0010ffff\ud7ff\ue000"},
		{"\"\u00e9\u0080\u200b\ufeff\ufffd\U0010ffff\"", "\u00e9\u0080\u200b\ufeff\ufffd\U0010ffff"},
		{`"\x410\u{41}1"`, "A0A1"},
	} {
		if s, e, at := scan.Unquote(c[0]); s != c[1] || e != api.OK || at != 0 {
			t.Errorf("P3.5: Unquote(%s) = %q, %d, %d; want %q", c[0], s, e, at, c[1])
		}
		checkUnquote(t, c[0])
	}
}

func TestUnquoteTellsTheFirstFault(t *testing.T) {
	many := strings.Repeat("a", 257)
	for _, c := range []struct {
		lit string
		e   api.Errno
		at  int
	}{
		{"", api.ErrQuote, 0},
		{"a", api.ErrQuote, 0},
		{" \"a\"", api.ErrQuote, 0},
		{"\\\"", api.ErrQuote, 0},
		{"\xff\"", api.ErrQuote, 0},
		{"\"", api.ErrQuote, 1},
		{"\"\u00e9", api.ErrQuote, 3},
		{"\"a\\\"", api.ErrQuote, 4},
		{"\"a\"b", api.ErrQuote, 3},
		{"\"\u00e9\" ", api.ErrQuote, 4},
		{"\"\"\"\"", api.ErrQuote, 2},
		{"\"\"\n", api.ErrQuote, 2},
		{"\"a\"\xff", api.ErrQuote, 3},
		{"\"a\n\"", api.ErrRune, 2},
		{"\"\u00e9\n", api.ErrRune, 3},
		{"\"\u00e9\xff\"", api.ErrRune, 3},
		{"\"\x7f", api.ErrRune, 1},
		{"\"\x00\"", api.ErrRune, 1},
		{"\"\t\"", api.ErrRune, 1},
		{"\"\u00e9\\", api.ErrEscape, 3},
		{"\"\\\n\"", api.ErrEscape, 1},
		{"\"\\u{d800}\"", api.ErrEscape, 1},
		{"\"\\u{110000}\"", api.ErrEscape, 1},
		{"\"\\u{}\"", api.ErrEscape, 1},
		{"\"\\u{0000000}\"", api.ErrEscape, 1},
		{"\"\\u{", api.ErrEscape, 1},
		{"\"\\u", api.ErrEscape, 1},
		{"\"\\x", api.ErrEscape, 1},
		{"\"\\x0", api.ErrEscape, 1},
		{"\"a\\q", api.ErrEscape, 2},
		{"\"" + many + "\"", api.ErrString, 0},
		{"\"" + many + "\"\"", api.ErrQuote, 259},
		{"\"" + many, api.ErrQuote, 258},
		{"\"" + many + "\\q\"", api.ErrEscape, 258},
		{"\"" + many + "\n\"", api.ErrRune, 258},
		{"\"" + strings.Repeat(`\u{10ffff}`, 64) + "a\"", api.ErrString, 0},
		{"\"" + strings.Repeat("a", 16383), api.ErrQuote, 16384},
		{"\"" + strings.Repeat("a", 16382) + "\"", api.ErrString, 0},
		{"\"" + strings.Repeat("a", 16383) + "\"", api.ErrLong, 0},
		{strings.Repeat("a", 16385), api.ErrLong, 0},
		{strings.Repeat("\"", 1<<20), api.ErrLong, 0},
	} {
		if s, e, at := scan.Unquote(c.lit); s != "" || e != c.e || at != c.at {
			t.Errorf("P3.5: Unquote(%.40q) = %q, %d, %d; want %d, %d", c.lit, s, e, at, c.e, c.at)
		}
		checkUnquote(t, c.lit)
	}
	checkUnquote(t, "\""+many[1:]+"\"")
	checkUnquote(t, "\""+strings.Repeat(`\u{00000a}`, 256)+"\"")
}

func TestUnquoteOfAllShortTexts(t *testing.T) {
	pieces := []string{"\"", "\\", "x", "u", "{", "}", "4", "F", "g", "n", "\n", "\u00e9", "\xc3", "\x7f"}
	eachText(pieces, 3, func(lit string) { checkUnquote(t, lit) })
	eachText(pieces, 4, func(text string) { checkUnquote(t, "\""+text+"\"") })
	eachText([]string{"0", "1", "D", "f", "g", "}"}, 6, func(text string) { checkUnquote(t, "\"\\u{"+text+"}\"") })
	for b := range 256 * 256 {
		checkUnquote(t, "\"\\x"+string([]byte{byte(b >> 8), byte(b)})+"\"")
	}
}

func TestQuoteAndUnquoteOfMixedTexts(t *testing.T) {
	s := source(7)
	for range 20000 {
		var b []byte
		for range s.below(20) {
			b = append(b, byte(s.below(256)))
		}
		checkQuote(t, string(b))
		checkUnquote(t, "\""+string(b)+"\"")
		checkUnquote(t, "\""+s.mix([]string{"a", "\u00e9", "\u200b", `\n`, `\"`, `\\`, `\x41`, `\xFf`, `\u{e9}`, `\u{10FFFF}`, "\ufffd", "'"}, 12)+"\"")
	}
}
