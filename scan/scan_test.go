package scan_test

import (
	"slices"
	"strings"
	"sync"
	"testing"
	"unsafe"

	"reach/api"
	"reach/scan"
)

// checkScan holds Scan of a text against its second telling.
func checkScan(t *testing.T, text string) {
	t.Helper()
	got, e, line, col := scan.Scan(text)
	want, wantE, wantLine, wantCol := tellScan(text)
	if !slices.Equal(got, want) || e != wantE || line != wantLine || col != wantCol || e != api.OK && got != nil {
		t.Fatalf("P3.1: Scan(%.200q) = %.400v, %d, %d, %d; want %.400v, %d, %d, %d", text, got, e, line, col, want, wantE, wantLine, wantCol)
	}
}

// tokensOf: the tokens of a text that must have none but good ones.
func tokensOf(t *testing.T, text string) []api.Token {
	t.Helper()
	tokens, e, line, col := scan.Scan(text)
	if e != api.OK || line != 0 || col != 0 {
		t.Fatalf("Scan(%.200q) = %d, %d, %d", text, e, line, col)
	}
	return tokens
}

// kinds: the kinds and Texts of tokens, as one text.
func kinds(tokens []api.Token) string {
	var out []string
	for _, t := range tokens {
		out = append(out, string(rune('0'+t.Kind))+t.Text)
	}
	return strings.Join(out, " ")
}

func TestScanCutsTokens(t *testing.T) {
	for _, c := range [][2]string{
		{"", ""},
		{" \t\r \n\n\r\n", ""},
		{"# all \x00\xff\u00e9 \"", ""},
		{"\n#\n#", ""},
		{"a", "2a 1\n"},
		{"a\n", "2a 1\n"},
		{"_ A9_z b", "2_ 2A9_z 2b 1\n"},
		{"R1..a", "2R1 7.. 2a 1\n"},
		{"a.b..c.d", "3a.b 7.. 3c.d 1\n"},
		{"_._9 a9.B", "3_._9 3a9.B 1\n"},
		{"10..20", "410 7.. 420 1\n"},
		{"1.2.3.4..5", "41.2.3.4 7.. 45 1\n"},
		{"0 7 4294967295 0x0 0xAbCdEf09 0b0 0b1 255.255.255.255 0.0.0.0", "40 47 44294967295 40x0 40xAbCdEf09 40b0 40b1 4255.255.255.255 40.0.0.0 1\n"},
		{"%0 %1 %x %01x", "5%0 5%1 5%x 5%01x 1\n"},
		{"%01..%1", "5%01 7.. 5%1 1\n"},
		{"()!=!<=<>=>&|,:/..->=", "7( 7) 7!= 7! 7<= 7< 7>= 7> 7& 7| 7, 7: 7/ 7.. 7-> 7= 1\n"},
		{"====", "7= 7= 7= 7= 1\n"},
		{"!!==", "7! 7!= 7= 1\n"},
		{"<<=>>=", "7< 7<= 7> 7>= 1\n"},
		{"....", "7.. 7.. 1\n"},
		{"dst=7&any", "2dst 7= 47 7& 2any 1\n"},
		{"a#b", "2a 1\n"},
		{"a \"#\" # \"", "2a 6\"#\" 1\n"},
		{"a\nb\r\n\n\tc", "2a 1\n 2b 1\n 2c 1\n"},
		{`""`, "6\"\" 1\n"},
		{`"a b""c"`, "6\"a b\" 6\"c\" 1\n"},
		{`a"b"1"%"%0`, "2a 6\"b\" 41 6\"%\" 5%0 1\n"},
		{`"\"\\\n\r\t\x00\xfF\u{0}\u{10ffff}\u{00004A}"`, `6"\"\\\n\r\t\x00\xfF\u{0}\u{10ffff}\u{00004A}"` + " 1\n"},
		{"\"\u00e9\u2028\u0080\ufffd\ufeff\U0010ffff\"", "6\"\u00e9\u2028\u0080\ufffd\ufeff\U0010ffff\" 1\n"},
	} {
		if got := kinds(tokensOf(t, c[0])); got != c[1] {
			t.Errorf("P3.1: Scan(%q) has %q, want %q", c[0], got, c[1])
		}
		checkScan(t, c[0])
	}
}

func TestScanTellsPlaces(t *testing.T) {
	for _, c := range []struct {
		text  string
		place [][2]int // line and column, token by token
	}{
		{"a", [][2]int{{1, 1}, {1, 2}}},
		{"\n\n a ", [][2]int{{3, 2}, {3, 4}}},
		{"\ta\r\n", [][2]int{{1, 2}, {1, 4}}},
		{"a # \u00e9\xff\xe2\x82", [][2]int{{1, 1}, {1, 9}}},
		{"# \u00e9\n\"\u00e9\U0001f600\ufffd\"a", [][2]int{{2, 1}, {2, 6}, {2, 7}}},
		{"->..(1", [][2]int{{1, 1}, {1, 3}, {1, 5}, {1, 6}, {1, 7}}},
		{"a\n#\nb", [][2]int{{1, 1}, {1, 2}, {3, 1}, {3, 2}}},
	} {
		tokens := tokensOf(t, c.text)
		var place [][2]int
		for _, tok := range tokens {
			place = append(place, [2]int{tok.Line, tok.Col})
		}
		if !slices.Equal(place, c.place) {
			t.Errorf("P3.1: the tokens of %q are at %v, want %v", c.text, place, c.place)
		}
	}
}

func TestScanTellsTheFirstFault(t *testing.T) {
	long := strings.Repeat("a", 25)
	for _, c := range []struct {
		text      string
		e         api.Errno
		line, col int
	}{
		{"$", api.ErrByte, 1, 1},
		{"a.", api.ErrByte, 1, 2},
		{"a.1", api.ErrByte, 1, 2},
		{"a.b.c", api.ErrByte, 1, 4},
		{"...", api.ErrByte, 1, 3},
		{"a -b", api.ErrByte, 1, 3},
		{"\\", api.ErrByte, 1, 1},
		{"a\x00", api.ErrByte, 1, 2},
		{"a\x0b", api.ErrByte, 1, 2},
		{"\u00e9", api.ErrByte, 1, 1},
		{"a\u00a0b", api.ErrByte, 1, 2},
		{"1\u0660", api.ErrByte, 1, 2},
		{"# \u00e9\xff\n \xff", api.ErrByte, 2, 2},
		{"\ufffd", api.ErrByte, 1, 1},
		{"{", api.ErrByte, 1, 1},
		{"10x", api.ErrNumber, 1, 1},
		{"a 007", api.ErrNumber, 1, 3},
		{"1.2.3", api.ErrNumber, 1, 1},
		{"1.2.3.4.5", api.ErrNumber, 1, 1},
		{"1.2.3.4.x", api.ErrByte, 1, 8},
		{"1.2.3.4x", api.ErrNumber, 1, 1},
		{"1.x", api.ErrByte, 1, 2},
		{"0x", api.ErrNumber, 1, 1},
		{"0X1", api.ErrNumber, 1, 1},
		{"0x.1", api.ErrNumber, 1, 1},
		{"0b", api.ErrNumber, 1, 1},
		{"0b2", api.ErrNumber, 1, 1},
		{"1_0", api.ErrNumber, 1, 1},
		{"4294967296", api.ErrNumber, 1, 1},
		{"256.0.0.0", api.ErrNumber, 1, 1},
		{"1.2.3.04", api.ErrNumber, 1, 1},
		{"=%", api.ErrDigits, 1, 2},
		{"%2", api.ErrDigits, 1, 1},
		{"%X", api.ErrDigits, 1, 1},
		{"%0_", api.ErrDigits, 1, 1},
		{"%0 %0y0", api.ErrDigits, 1, 4},
		{"%" + strings.Repeat("0", 33), api.ErrDigits, 1, 1},
		{"%0.1", api.ErrByte, 1, 3},
		{" " + long, api.ErrName, 1, 2},
		{" " + long + ".b", api.ErrName, 1, 2},
		{" a." + long, api.ErrName, 1, 2},
		{long + ".1", api.ErrName, 1, 1},
		{"\"", api.ErrQuote, 1, 2},
		{"\"a\nb\"", api.ErrQuote, 1, 3},
		{"\"\u00e9 # \n", api.ErrQuote, 1, 6},
		{"\"a\r\n\"", api.ErrRune, 1, 3},
		{"\"\t\"", api.ErrRune, 1, 2},
		{"\"a\x1f\"", api.ErrRune, 1, 3},
		{"\"a\x7f\"", api.ErrRune, 1, 3},
		{"\"\u00e9\u00e9\xff\"", api.ErrRune, 1, 4},
		{"\"\xef\xbf\"", api.ErrRune, 1, 2},
		{"\"\xed\xa0\x80\"", api.ErrRune, 1, 2},
		{"\"a\\", api.ErrEscape, 1, 3},
		{"\"a\\\n\"", api.ErrEscape, 1, 3},
		{"\"\\a\"", api.ErrEscape, 1, 2},
		{"\"\\N\"", api.ErrEscape, 1, 2},
		{"\"\\0\"", api.ErrEscape, 1, 2},
		{"\"\\'\"", api.ErrEscape, 1, 2},
		{"\"\u00e9\\x4\"", api.ErrEscape, 1, 3},
		{"\"\\x\n", api.ErrEscape, 1, 2},
		{"\"\\x4", api.ErrEscape, 1, 2},
		{"\"\\xg0\"", api.ErrEscape, 1, 2},
		{"\"\\x0g\"", api.ErrEscape, 1, 2},
		{"\"\\X00\"", api.ErrEscape, 1, 2},
		{"\"\\u41\"", api.ErrEscape, 1, 2},
		{"\"\\u(41)\"", api.ErrEscape, 1, 2},
		{"\"\\u{}\"", api.ErrEscape, 1, 2},
		{"\"\\u{41\"", api.ErrEscape, 1, 2},
		{"\"\\u{41", api.ErrEscape, 1, 2},
		{"\"\\u{4g}\"", api.ErrEscape, 1, 2},
		{"\"\\u{0000041}\"", api.ErrEscape, 1, 2},
		{"\"\\u{110000}\"", api.ErrEscape, 1, 2},
		{"\"\\u{d800}\"", api.ErrEscape, 1, 2},
		{"\"\\u{DFFF}\"", api.ErrEscape, 1, 2},
		{"\"\\u{ffffff}\"", api.ErrEscape, 1, 2},
		{"\"\\U{41}\"", api.ErrEscape, 1, 2},
		{"a\n$ %", api.ErrByte, 2, 1},
		{"007 $", api.ErrNumber, 1, 1},
		{"\"\x01\\q", api.ErrRune, 1, 2},
		{"\"\\q\x01", api.ErrEscape, 1, 2},
	} {
		if got, e, line, col := scan.Scan(c.text); got != nil || e != c.e || line != c.line || col != c.col {
			t.Errorf("P3.1: Scan(%q) = %v, %d, %d, %d; want %d, %d, %d", c.text, got, e, line, col, c.e, c.line, c.col)
		}
		checkScan(t, c.text)
	}
}

func TestScanKeepsTheBorders(t *testing.T) {
	says := func(n int) string { return "\"" + strings.Repeat("a", n) + "\"" }
	name := strings.Repeat("z", 24)
	for _, text := range []string{
		name, name + "." + name, name + ".." + name,
		"%" + strings.Repeat("x", 32),
		"0b" + strings.Repeat("1", 32), "0xffffffff",
		says(256),
		"\"" + strings.Repeat(`\u{00004a}`, 256) + "\"",
		"\"" + strings.Repeat("\u00e9", 128) + "\"",
		"\"" + strings.Repeat(`\x00`, 256) + "\"",
		"\"" + strings.Repeat(`\u{10FFFF}`, 64) + "\"",
		strings.Repeat("\n", 16384),
		strings.Repeat("a ", 8192),
		strings.Repeat("=", 16384),
		"#" + strings.Repeat("\xff", 16383),
		strings.Repeat("a\n", 8192),
	} {
		tokensOf(t, text)
		checkScan(t, text)
	}
	for _, c := range []struct {
		text string
		e    api.Errno
		col  int
	}{
		{" " + says(257), api.ErrString, 2},
		{says(257) + "\"", api.ErrString, 1},
		{" \"" + strings.Repeat("\u00e9", 129) + "\"", api.ErrString, 2},
		{" \"" + strings.Repeat(`\x00`, 257) + "\"", api.ErrString, 2},
		{" \"" + strings.Repeat(`\u{10FFFF}`, 64) + "a\"", api.ErrString, 2},
		{" \"" + strings.Repeat("a", 257), api.ErrQuote, 260},
		{" \"" + strings.Repeat("a", 257) + "\t\"", api.ErrRune, 260},
		{" \"" + strings.Repeat("a", 257) + "\\q\"", api.ErrEscape, 260},
		{"\"" + strings.Repeat("a", 16383), api.ErrQuote, 16385},
		{strings.Repeat("1", 16384), api.ErrNumber, 1},
		{strings.Repeat("a", 16384), api.ErrName, 1},
		{"%" + strings.Repeat("0", 16383), api.ErrDigits, 1},
	} {
		if got, e, line, col := scan.Scan(c.text); got != nil || e != c.e || line != 1 || col != c.col {
			t.Errorf("P3.1: Scan(%.20q..) of %d bytes = %v, %d, %d, %d; want %d, 1, %d", c.text, len(c.text), got, e, line, col, c.e, c.col)
		}
		checkScan(t, c.text)
	}
	for _, text := range []string{strings.Repeat("\n", 16385), strings.Repeat("$", 16385), strings.Repeat("\u00e9", 8193), strings.Repeat(" ", 1<<20)} {
		if got, e, line, col := scan.Scan(text); got != nil || e != api.ErrLong || line != 0 || col != 0 {
			t.Errorf("P3.1: Scan of %d bytes = %v, %d, %d, %d", len(text), got, e, line, col)
		}
	}
}

func TestScanOfEveryByteAndOfManyCharacters(t *testing.T) {
	for b := range 256 {
		for _, frame := range [][2]string{{"", ""}, {"a", "b"}, {"1", "1"}, {"%0", "0"}, {"\"", "\""}, {"\"\\", "\""}, {"\"\\x", "0\""}, {"\"\\u{", "}\""}, {"#", "\na"}} {
			checkScan(t, frame[0]+string([]byte{byte(b)})+frame[1])
		}
	}
	for r := rune(0); r <= 0x10ffff; r += 1 + r>>9 {
		checkScan(t, "\""+string(r)+"\" "+string(r))
	}
}

func TestScanOfAllShortTexts(t *testing.T) {
	few := 3
	if !testing.Short() {
		few = 4
	}
	eachText([]string{"a", "0", "1", ".", "%", "x", "\"", "\\", "#", " ", "\n", "\u00e9", "\xff", "=", "!", "-", ">"}, few, func(text string) { checkScan(t, text) })
	eachText([]string{"a", "1", ".", "\n", "%"}, few+3, func(text string) { checkScan(t, text) })
	eachText([]string{"!", "=", "<", ">", "-", "."}, few+2, func(text string) { checkScan(t, text) })
	eachText([]string{"\\", "x", "u{", "}", "4", "D8", "\"", "n", "\n"}, few+1, func(text string) { checkScan(t, "\""+text) })
}

// bits of texts of which most go together.
var mixed = []string{
	"a", "R1", "R1.a", "b.c", "_x9", "0", "7", "10.0.0.1", "0x1F", "0b101", "4294967295", "%01x", "%x", "\"\"", "\"a b\"", "\"\u00e9\"", `"\x00\u{e9}\n"`, "\"#\"",
	"(", ")", "!", "=", "!=", "<", "<=", ">", ">=", "&", "|", ",", ":", "/", "..", "->",
	" ", " ", " ", " ", " ", " ", "\t", "\r", "\n", "\n", "# x\n", "#\xff\u00e9\n", "\n\n",
}

var wrong = []string{".", "-", "$", "\xff", "\u00e9", "\"", "\\", "007", "%2", "1.2.3", "\"\\q\"", "\x00", "abcdefghijklmnopqrstuvwxyz"}

func TestScanOfMixedTexts(t *testing.T) {
	s := source(3)
	good := 0
	for n := range 20000 {
		text := s.mix(mixed, 40)
		if n%4 == 0 {
			text += wrong[s.below(len(wrong))] + s.mix(mixed, 20)
		}
		checkScan(t, text)
		if _, e, _, _ := scan.Scan(text); e == api.OK {
			good++
		}
	}
	if good < 1000 {
		t.Errorf("only %d texts had no fault", good)
	}
}

func TestScanAnswersNewMemory(t *testing.T) {
	text := "rule 7 # x\n to \"\u00e9\" a.b"
	first := tokensOf(t, text)
	kept := slices.Clone(first)
	second := tokensOf(t, text)
	clear(second[:cap(second)])
	if !slices.Equal(first, kept) || !slices.Equal(tokensOf(t, text), kept) {
		t.Error("P3.9: an answer is changed through another one")
	}
	if _, e := scan.Print(first); e != api.OK || !slices.Equal(first, kept) {
		t.Error("P3.9: Print changed what it got")
	}
}

func TestScanKeepsNothingOfItsText(t *testing.T) {
	text := strings.Clone("rule 7 # x\n to \"\u00e9\" a.b")
	from := uintptr(unsafe.Pointer(unsafe.StringData(text)))
	for _, tok := range tokensOf(t, text) {
		if at := uintptr(unsafe.Pointer(unsafe.StringData(tok.Text))); from <= at && at < from+uintptr(len(text)) {
			t.Errorf("P3.9: the token %q lies in the text that was handed in", tok.Text)
		}
	}
}

func TestCallsAtTheSameTime(t *testing.T) {
	var all sync.WaitGroup
	for n := range 8 {
		all.Go(func() {
			s := source(n)
			for range 300 {
				text := s.mix(mixed, 30)
				got, e, line, col := scan.Scan(text)
				again, againE, againLine, againCol := scan.Scan(text)
				if !slices.Equal(got, again) || e != againE || line != againLine || col != againCol {
					t.Errorf("P3.9: Scan(%q) has two answers", text)
				}
				one, oneE := scan.Print(got)
				two, twoE := scan.Print(again)
				if one != two || oneE != twoE {
					t.Errorf("P3.9: Print of the tokens of %q has two answers", text)
				}
			}
		})
	}
	all.Wait()
}
