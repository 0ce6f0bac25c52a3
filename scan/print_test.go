package scan_test

import (
	"slices"
	"strings"
	"testing"

	"reach/api"
	"reach/scan"
)

func tok(kind int, text string) api.Token { return api.Token{Kind: kind, Text: text} }

var lineEnd = tok(api.TokEnd, "\n")

// one token of each sort, each sign among them
func samples() []api.Token {
	list := []api.Token{tok(api.TokName, "a"), tok(api.TokName, "x1"), tok(api.TokPort, "R1.a"), tok(api.TokNumber, "1"), tok(api.TokNumber, "10.0.0.1"), tok(api.TokPattern, "%01x"), tok(api.TokText, "\"\u00e9(\""), tok(api.TokText, "\"!\"")}
	for _, sign := range strings.Fields("( ) ! = != < <= > >= & | , : / .. ->") {
		list = append(list, tok(api.TokSign, sign))
	}
	return list
}

// checkPrint holds Print of a list against its second telling and, where it is not refused, the tokens of the text against the list; P3.2, P3.3.
func checkPrint(t *testing.T, list []api.Token) {
	t.Helper()
	text, e := scan.Print(list)
	want, wantE := tellPrint(list)
	if text != want || e != wantE {
		t.Fatalf("P3.2: Print(%.300q) = %.300q, %d; want %.300q, %d", kinds(list), text, e, want, wantE)
	}
	if e != api.OK {
		return
	}
	back := tokensOf(t, text)
	if kinds(back) != kinds(list) {
		t.Fatalf("P3.3: the tokens of %.300q are %.300q, those printed %.300q", text, kinds(back), kinds(list))
	}
	checkScan(t, text)
	if again, e := scan.Print(back); again != text || e != api.OK {
		t.Fatalf("P3.3: %.300q is printed as %.300q, %d", text, again, e)
	}
}

func TestPrintOfAllPairsAndThrees(t *testing.T) {
	list := samples()
	for _, a := range list {
		checkPrint(t, []api.Token{a, lineEnd})
		for _, b := range list {
			checkPrint(t, []api.Token{a, b, lineEnd})
			checkPrint(t, []api.Token{a, lineEnd, b, lineEnd})
			for _, c := range list {
				checkPrint(t, []api.Token{a, b, c, lineEnd})
			}
		}
	}
}

func TestPrintHasItsOwnLayout(t *testing.T) {
	for _, c := range [][2]string{
		{"", ""},
		{"  # nothing\n", ""},
		{"a", "a\n"},
		{"a\n\n \n#\nb", "a\nb\n"},
		{"a   b\tc", "a b c\n"},
		{"dst=7&any", "dst = 7 & any\n"},
		{"! ! ( ! a | ! R1.a ! 7 ! = ! %0 ! \"a\" ! !=", "!!(!a | ! R1.a ! 7 ! = ! %0 ! \"a\" ! !=\n"},
		{"( a , b ) ( c", "(a, b) (c\n"},
		{"a : 3 , b / 8 .. 9", "a:3, b/8..9\n"},
		{"! : ! , ! ) ! / ! ..", "!:!, !) !/!..\n"},
		{"link R1.c->R2.a cost 5", "link R1.c -> R2.a cost 5\n"},
		{"\"(\" \"!\" \":\"", "\"(\" \"!\" \":\"\n"},
		{"( (\n) )", "((\n))\n"},
		{"<=<>=", "<= < >=\n"},
	} {
		if text, e := scan.Print(tokensOf(t, c[0])); text != c[1] || e != api.OK {
			t.Errorf("P3.2: Print of the tokens of %q = %q, %d; want %q", c[0], text, e, c[1])
		}
		checkPrint(t, tokensOf(t, c[0]))
	}
	if text, e := scan.Print(nil); text != "" || e != api.OK {
		t.Errorf("P3.2: Print(nil) = %q, %d", text, e)
	}
}

func TestPrintDoesNotLookAtPlaces(t *testing.T) {
	list := []api.Token{{Kind: api.TokName, Text: "a", Line: -7, Col: 1 << 62}, {Kind: api.TokSign, Text: "=", Line: 3, Col: -1 << 63}, {Kind: api.TokEnd, Text: "\n", Line: 1, Col: 1}}
	if text, e := scan.Print(list); text != "a =\n" || e != api.OK {
		t.Errorf("P3.2: Print = %q, %d", text, e)
	}
}

func TestPrintRefusesWhatIsNoToken(t *testing.T) {
	a := tok(api.TokName, "a")
	for _, list := range [][]api.Token{
		{lineEnd},
		{lineEnd, a, lineEnd},
		{a},
		{a, lineEnd, a},
		{a, lineEnd, lineEnd},
		{a, lineEnd, lineEnd, a, lineEnd},
		{{}},
		{a, {}},
		{tok(api.TokEnd, "")},
		{a, tok(api.TokEnd, "")},
		{a, tok(api.TokEnd, "\n\n")},
		{a, tok(api.TokEnd, "\r\n")},
		{a, tok(api.TokEnd, "a")},
	} {
		if text, e := scan.Print(list); text != "" || e != api.ErrToken {
			t.Errorf("P3.2: Print(%q) = %q, %d", kinds(list), text, e)
		}
		checkPrint(t, list)
	}
	long := strings.Repeat("a", 25)
	texts := []string{"", " ", "\n", "#", "a", " a", "a ", "a#", "a\n", "\na", "a b", "a.b", "a.b.c", "a.", ".a", "a..b", long, "a." + long, "1", "01", "1.2.3.4", "1.2.3", "1.2.3.4.5", "0x", "0xf", "4294967296", "1 ", "%", "%0", "%2", "%0%1", "%" + long, "\"a\"", "\"a", "a\"", "\"a\"\"b\"", "\"\n\"", "\"\\q\"", "\"\xff\"", "\"" + strings.Repeat("a", 257) + "\"", "=", "==", "=!", "!=", ".", "..", "...", "-", "->", "->>", "$", "\xff", "\u00e9", strings.Repeat("a", 16385), strings.Repeat(" ", 20000)}
	for _, text := range texts {
		for _, kind := range []int{-1, 0, 2, 3, 4, 5, 6, 7, 8, 1 << 40, -1 << 63, 1<<63 - 1} {
			checkPrint(t, []api.Token{tok(kind, text), lineEnd})
			checkPrint(t, []api.Token{a, tok(kind, text), lineEnd})
		}
	}
}

func TestPrintOrdersItsErrors(t *testing.T) {
	many := slices.Repeat([]api.Token{tok(api.TokSign, "=")}, 8192) // with the spaces between them, and a newline, MaxText bytes
	line := append(slices.Clip(many), lineEnd)
	if text, e := scan.Print(line); len(text) != 16384 || e != api.OK {
		t.Errorf("P3.2: MaxText bytes: %d bytes, %d", len(text), e)
	}
	checkPrint(t, line)
	longer := append(slices.Clip(many[1:]), tok(api.TokSign, "!="), lineEnd)
	if text, e := scan.Print(longer); text != "" || e != api.ErrLong {
		t.Errorf("P3.2: one byte more: %d bytes, %d", len(text), e)
	}
	opens := append(slices.Repeat([]api.Token{tok(api.TokSign, "(")}, 16383), lineEnd)
	if text, e := scan.Print(opens); len(text) != 16384 || e != api.OK {
		t.Errorf("P3.2: MaxText tokens: %d bytes, %d", len(text), e)
	}
	huge := slices.Repeat([]api.Token{tok(api.TokText, "\""+strings.Repeat("a", 256)+"\"")}, 100)
	if text, e := scan.Print(append(slices.Clip(huge), lineEnd)); text != "" || e != api.ErrLong {
		t.Errorf("P3.2: a text that is too long: %d bytes, %d", len(text), e)
	}
	if text, e := scan.Print(huge); text != "" || e != api.ErrToken {
		t.Errorf("P3.2: a text that is too long and does not end: %d bytes, %d", len(text), e)
	}
	if text, e := scan.Print(append(slices.Clip(huge), tok(9, "a"), lineEnd)); text != "" || e != api.ErrToken {
		t.Errorf("P3.2: a text that is too long with what is no token: %d bytes, %d", len(text), e)
	}
	if text, e := scan.Print(make([]api.Token, 16384)); text != "" || e != api.ErrToken {
		t.Errorf("P3.2: MaxText that are no tokens: %d bytes, %d", len(text), e)
	}
	for _, n := range []int{16385, 1 << 20} {
		if text, e := scan.Print(make([]api.Token, n)); text != "" || e != api.ErrLong {
			t.Errorf("P3.2: %d that are no tokens: %d bytes, %d", n, len(text), e)
		}
	}
}

func TestPrintOfLongTokensEndsSoon(t *testing.T) {
	long := tok(api.TokText, "\""+strings.Repeat(`\u{000041}`, 256)+"\"")
	list := append(slices.Repeat([]api.Token{long}, 16383), lineEnd)
	if text, e := scan.Print(list); text != "" || e != api.ErrLong {
		t.Errorf("P3.2: %d bytes, %d", len(text), e)
	}
}

func TestPrintOfMixedLists(t *testing.T) {
	s := source(5)
	list := samples()
	for n := range 4000 {
		var tokens []api.Token
		for range s.below(12) {
			for range 1 + s.below(8) {
				tokens = append(tokens, list[s.below(len(list))])
			}
			tokens = append(tokens, lineEnd)
		}
		if n%5 == 0 && len(tokens) > 0 {
			tokens[s.below(len(tokens))] = []api.Token{{}, lineEnd, tok(api.TokName, "1"), tok(api.TokText, "a")}[s.below(4)]
		}
		checkPrint(t, tokens)
	}
	for range 4000 {
		if tokens, e, _, _ := scan.Scan(s.mix(mixed, 40)); e == api.OK {
			checkPrint(t, tokens)
		}
	}
}

func TestPrintLeavesItsListAsItWas(t *testing.T) {
	room := []api.Token{tok(api.TokName, "a"), tok(api.TokSign, "="), lineEnd, tok(9, "spare"), tok(9, "room")}
	kept := slices.Clone(room)
	if text, e := scan.Print(room[:3]); text != "a =\n" || e != api.OK {
		t.Errorf("P3.2: Print = %q, %d", text, e)
	}
	scan.Print(room)
	scan.Print(room[:2])
	if !slices.Equal(room, kept) {
		t.Errorf("P3.9: the list is now %v", room)
	}
}
