package expr_test

import (
	"math"
	"slices"
	"strings"
	"testing"

	"reach/api"
	"reach/expr"
	"reach/scan"
)

func tok(kind int, text string) api.Token { return api.Token{Kind: kind, Text: text} }

// tokensOf: the tokens of a text without faults.
func tokensOf(t *testing.T, text string) []api.Token {
	t.Helper()
	tokens, e, _, _ := scan.Scan(text)
	if e != api.OK {
		t.Fatalf("Scan(%.100q) = %d", text, e)
	}
	return tokens
}

func texts(tokens []api.Token) string {
	var out []string
	for _, t := range tokens {
		out = append(out, string(rune('0'+t.Kind))+t.Text)
	}
	return strings.Join(out, " ")
}

// checkRead holds Read against its second telling.
func checkRead(t *testing.T, tokens []api.Token, from int) api.Errno {
	t.Helper()
	e, at, errno := expr.Read(tokens, from)
	want, wantAt, wantErrno := tellRead(tokens, from)
	if !slices.Equal(e, want) || at != wantAt || errno != wantErrno || errno != api.OK && e != nil {
		t.Fatalf("P5.1: Read(%.300s, %d) = %v, %d, %d; want %v, %d, %d", texts(tokens), from, e, at, errno, want, wantAt, wantErrno)
	}
	return errno
}

// checkParse holds Parse against its second telling, and what it reads against Print; P5.2, P5.4.
func checkParse(t *testing.T, text string) api.Errno {
	t.Helper()
	e, errno, at := expr.Parse(text)
	tokens, wantErrno, _, wantAt := scan.Scan(text)
	var want []api.Node
	if wantErrno == api.OK {
		want, wantErrno, wantAt = tellParse(tokens)
	}
	if !slices.Equal(e, want) || errno != wantErrno || at != wantAt || errno != api.OK && e != nil {
		t.Fatalf("P5.2: Parse(%.300q) = %v, %d, %d; want %v, %d, %d", text, e, errno, at, want, wantErrno, wantAt)
	}
	if errno == api.OK {
		checkPrint(t, e)
	}
	return errno
}

// eachList calls look with every list of so many of these tokens.
func eachList(alphabet []api.Token, size int, look func(tokens []api.Token)) {
	tokens := make([]api.Token, size)
	var fill func(place int)
	fill = func(place int) {
		if place == size {
			look(tokens)
			return
		}
		for _, t := range alphabet {
			tokens[place] = t
			fill(place + 1)
		}
	}
	fill(0)
}

func TestReadOfAllShortLists(t *testing.T) {
	all := []api.Token{
		tok(api.TokName, "any"), tok(api.TokName, "none"), tok(api.TokName, "a"), tok(api.TokName, "1"), tok(api.TokNumber, "1"), tok(api.TokNumber, "01"), tok(api.TokPattern, "%0"), tok(api.TokPattern, "0"), tok(api.TokPort, "a.b"), tok(api.TokText, "\"a\""), tok(api.TokEnd, "\n"),
		tok(api.TokSign, "="), tok(api.TokSign, "!="), tok(api.TokSign, "<"), tok(api.TokSign, ">="), tok(api.TokSign, "/"), tok(api.TokSign, ".."), tok(api.TokSign, "!"), tok(api.TokSign, "&"), tok(api.TokSign, "|"), tok(api.TokSign, "("), tok(api.TokSign, ")"), tok(api.TokSign, ","), {},
	}
	for size := range 4 {
		eachList(all, size, func(tokens []api.Token) {
			for from := -1; from <= size+1; from++ {
				checkRead(t, tokens, from)
			}
		})
	}
	test := []api.Token{tok(api.TokNumber, "1"), tok(api.TokNumber, "1.2.3"), tok(api.TokPattern, "%0"), tok(api.TokSign, "/"), tok(api.TokSign, ".."), tok(api.TokSign, "&"), tok(api.TokSign, ")"), tok(api.TokEnd, "\n")}
	for _, sign := range []string{"=", "!=", "<", "<=", ">", ">="} {
		for size := range 5 {
			eachList(test, size, func(tokens []api.Token) {
				ahead := []api.Token{tok(api.TokName, "a"), tok(api.TokSign, sign)}
				checkRead(t, append(ahead, tokens...), 0)
				checkRead(t, append([]api.Token{tok(api.TokSign, "("), ahead[0], ahead[1]}, tokens...), 0)
			})
		}
	}
	joins := []api.Token{tok(api.TokName, "any"), tok(api.TokSign, "!"), tok(api.TokSign, "&"), tok(api.TokSign, "|"), tok(api.TokSign, "("), tok(api.TokSign, ")")}
	for size := range 8 {
		eachList(joins, size, func(tokens []api.Token) { checkRead(t, tokens, 0) })
	}
}

func TestReadGoesAsFarAsItGoes(t *testing.T) {
	for _, c := range []struct {
		text string
		from int
		e    []api.Node
		at   int
	}{
		{"any", 0, list(anyNode), 1},
		{"any any", 0, list(anyNode), 1},
		{"any = 3", 0, list(anyNode), 1},
		{"any)", 0, list(anyNode), 1},
		{"(any))", 0, list(anyNode), 3},
		{"(any)any", 0, list(anyNode), 3},
		{"a = 1 to b", 0, list(number("a", api.OpIs, 1)), 3},
		{"a = 1, b = 2", 0, list(number("a", api.OpIs, 1)), 3},
		{"a < 1/2", 0, list(number("a", api.OpBelow, 1)), 3},
		{"a >= 1..2", 0, list(number("a", api.OpLeast, 1)), 3},
		{"a = 1/2/3", 0, list(prefix("a", api.OpIs, 1, 2)), 5},
		{"a = 1/2..3", 0, list(prefix("a", api.OpIs, 1, 2)), 5},
		{"a = 1..2..3", 0, list(span("a", api.OpIs, 1, 2)), 5},
		{"a = 9..2", 0, list(span("a", api.OpIs, 9, 2)), 5},
		{"a != %01x/3", 0, list(pattern("a", api.OpNot, "01x")), 3},
		{"any\n& any", 0, list(anyNode), 1},
		{"x any | ! none & any to", 1, list(anyNode, noneNode, notNode, anyNode, andNode, orNode), 7},
		{"match = 1 & match = 2 match", 0, list(number("match", api.OpIs, 1), number("match", api.OpIs, 2), andNode), 7},
	} {
		tokens := tokensOf(t, c.text)
		if e, at, errno := expr.Read(tokens, c.from); !slices.Equal(e, c.e) || at != c.at || errno != api.OK {
			t.Errorf("P5.1: Read(%q, %d) = %v, %d, %d; want %v, %d", c.text, c.from, e, at, errno, c.e, c.at)
		}
		checkRead(t, tokens, c.from)
	}
}

func TestReadRefusesWhereItBegins(t *testing.T) {
	tokens := tokensOf(t, "any | none")
	for _, from := range []int{-1, len(tokens) + 1, math.MinInt, math.MaxInt} {
		if e, at, errno := expr.Read(tokens, from); e != nil || at != 0 || errno != api.ErrArg {
			t.Errorf("P5.1: Read from %d = %v, %d, %d", from, e, at, errno)
		}
	}
	for _, none := range [][]api.Token{nil, {}, make([]api.Token, 0, 9)} {
		if e, at, errno := expr.Read(none, 0); e != nil || at != 0 || errno != api.ErrSyntax {
			t.Errorf("P5.1: Read(%v, 0) = %v, %d, %d", none, e, at, errno)
		}
		if e, at, errno := expr.Read(none, 1); e != nil || at != 0 || errno != api.ErrArg {
			t.Errorf("P5.1: Read(%v, 1) = %v, %d, %d", none, e, at, errno)
		}
	}
	if e, at, errno := expr.Read(tokens, len(tokens)); e != nil || at != len(tokens) || errno != api.ErrSyntax {
		t.Errorf("P5.1: Read at the end = %v, %d, %d", e, at, errno)
	}
}

func TestReadTellsWhereAListEnds(t *testing.T) {
	whole := tokensOf(t, "!(a = 1/2 & b < 3 | c != 4..5) & d = %0x & e = 6")
	for size := range whole {
		checkRead(t, whole[:size], 0)
	}
	for _, c := range []struct{ size, at int }{{1, 1}, {2, 2}, {3, 3}, {4, 4}, {5, 5}, {6, 6}, {7, 7}, {8, 8}, {12, 12}, {19, 19}} {
		if e, at, errno := expr.Read(whole[:c.size], 0); e != nil || at != c.at || errno != api.ErrSyntax {
			t.Errorf("P5.1: Read of %d tokens = %v, %d, %d", c.size, e, at, errno)
		}
	}
}

func TestReadLooksAtKindAndText(t *testing.T) {
	places := [][2]int{{0, 0}, {-1, -7}, {math.MaxInt, math.MinInt}, {3, 9}}
	for _, p := range places {
		tokens := tokensOf(t, "!(a = 1/2 & b < 3)")
		for n := range tokens {
			tokens[n].Line, tokens[n].Col = p[0], p[1]
		}
		want := list(prefix("a", api.OpIs, 1, 2), number("b", api.OpBelow, 3), andNode, notNode)
		if e, at, errno := expr.Read(tokens, 0); !slices.Equal(e, want) || at != 12 || errno != api.OK {
			t.Errorf("P5.1: Read = %v, %d, %d", e, at, errno)
		}
	}
	good := tokensOf(t, "(a = 1/2 & !b != %01x) | c < 3")
	for n, g := range good {
		for kind := -1; kind <= 8; kind++ {
			tokens := slices.Clone(good)
			tokens[n].Kind = kind
			checkRead(t, tokens, 0)
		}
		for _, text := range []string{"", " ", g.Text + " ", " " + g.Text, g.Text + "\n", "\n" + g.Text, g.Text + "#", g.Text + g.Text, g.Text + "\x00", "é", "\xff", "any", "none", "Any", "a", "=", "==", "1", "007", "0x", "4294967295", "4294967296", "1.2.3.4", "1.2.3.256", "+1", "-1", "%", "%2", "01", "%" + strings.Repeat("x", 32), "%" + strings.Repeat("x", 33), strings.Repeat("n", 24), strings.Repeat("n", 25), strings.Repeat("n", 16385), strings.Repeat("1", 1<<20)} {
			tokens := slices.Clone(good)
			tokens[n].Text = text
			checkRead(t, tokens, 0)
		}
	}
	for _, far := range []int{0, 1, api.TokEnd, 99, math.MinInt} {
		tokens := []api.Token{tok(api.TokName, "any"), tok(far, "\xff"), tok(api.TokName, "")}
		if e, at, errno := expr.Read(tokens, 0); !slices.Equal(e, list(anyNode)) || at != 1 || errno != api.OK {
			t.Errorf("P5.1: what stands behind: %v, %d, %d", e, at, errno)
		}
	}
}

func TestReadOrdersItsErrors(t *testing.T) {
	full := strings.Repeat("any & ", 32) // 64 tokens that make a node
	for _, c := range []struct {
		text  string
		at    int
		errno api.Errno
	}{
		{full + "any", 64, api.ErrNodes},
		{full + "none", 64, api.ErrNodes},
		{full + "a", 64, api.ErrNodes},
		{full + "a a", 64, api.ErrNodes},
		{full + "!", 64, api.ErrNodes},
		{full + "!)", 64, api.ErrNodes},
		{full + "&", 64, api.ErrSyntax},
		{full + ")", 64, api.ErrSyntax},
		{full + "7", 64, api.ErrSyntax},
		{full + "(any", 65, api.ErrNodes},
		{full + "()", 65, api.ErrSyntax},
		{full + "((((7", 68, api.ErrSyntax},
		{full + strings.Repeat("(", 32) + "any", 96, api.ErrNodes},
		{full + strings.Repeat("(", 33) + "any", 96, api.ErrDeep},
		{full + strings.Repeat("(", 32) + "!any", 96, api.ErrDeep},
		{full[:6*31] + "any any", 63, api.OK},
		{full[:6*31] + "!any", 64, api.OK},
		{full[:6*31] + "!any & any", 64, api.ErrNodes},
		{full[:6*31] + "!any | any", 64, api.ErrNodes},
		{full[:6*31] + "!any any", 64, api.OK},
		{full[:6*31] + "!any )", 64, api.OK},
		{full[:6*31] + "!a = 1", 66, api.OK},
		{full[:6*31] + "!!a = 1", 64, api.ErrNodes},
		{full[:6*31] + "!a = 1 &", 66, api.ErrNodes},
		{full[:6*31] + "!a = 1 / )", 67, api.ErrSyntax},
		{"(" + full[:6*31] + "!any | any", 65, api.ErrNodes},
		{"(" + full[:6*31] + "!any any", 65, api.ErrSyntax},
		{strings.Repeat("!", 32) + "any", 33, api.OK},
		{strings.Repeat("!", 33) + "any", 32, api.ErrDeep},
		{strings.Repeat("!", 32) + "(any)", 32, api.ErrDeep},
		{strings.Repeat("!", 32) + ")", 32, api.ErrSyntax},
		{strings.Repeat("(", 32) + "!any", 32, api.ErrDeep},
		{strings.Repeat("(", 32) + "a = 1 & !b = 2", 36, api.ErrDeep},
		{strings.Repeat("(", 32) + "any", 33, api.ErrSyntax},
		{strings.Repeat("(", 31) + "!any & !any | !(any)" + strings.Repeat(")", 31), 38, api.ErrDeep},
		{strings.Repeat("(", 30) + "!any & !any | !(any)" + strings.Repeat(")", 30), 70, api.OK},
		{strings.Repeat("(!", 16) + "any" + strings.Repeat(")", 16), 49, api.OK},
		{strings.Repeat("(!", 16) + "!any" + strings.Repeat(")", 16), 32, api.ErrDeep},
		{strings.Repeat("(", 32) + "any" + strings.Repeat(")", 32) + "&" + strings.Repeat("(", 32) + "any" + strings.Repeat(")", 32), 131, api.OK},
		{strings.Repeat("(", 32) + "any" + strings.Repeat(")", 32) + "&" + strings.Repeat("(", 33), 98, api.ErrDeep},
		{"!" + strings.Repeat("(", 31) + "any" + strings.Repeat(")", 31) + "&" + strings.Repeat("!", 32) + "any", 98, api.OK},
		{strings.Repeat("!", 100), 32, api.ErrDeep},
	} {
		tokens := tokensOf(t, c.text)
		if e, at, errno := expr.Read(tokens, 0); at != c.at || errno != c.errno || errno != api.OK && e != nil {
			t.Errorf("P5.1: Read(%q) = %v, %d, %d; want %d, %d", c.text, e, at, errno, c.at, c.errno)
		}
		checkRead(t, tokens, 0)
		checkParse(t, c.text)
	}
}

// grower makes tokens one behind the other, by the grammar. A steep one opens one bracket or denial after the other.
type grower struct {
	*source
	want  string
	open  int
	steep bool
}

// grown: tokens that follow the grammar, but for a slip here and there.
func (s *source) grown(slip int) []api.Token {
	words := []string{"any", "none", "a", "=", "!=", "<", ">=", "1", "0x1f", "10.0.0.1", "/", "..", "%0x1", "!", "&", "|", "(", ")"}
	g := grower{s, "factor", 0, s.below(3) == 0}
	var tokens []api.Token
	for range 20 + s.below(150) {
		text := words[s.below(len(words))]
		if s.below(slip) > 0 {
			text = g.next()
		}
		if text == "" {
			break
		}
		found, _, _, _ := scan.Scan(text)
		tokens = append(tokens, found[0])
	}
	return tokens
}

// one of these texts, and what may stand behind it.
func (g *grower) one(want string, texts ...string) string {
	g.want = want
	return texts[g.below(len(texts))]
}

// next: a text that may stand next; none, if the expression is to end.
func (g *grower) next() string {
	switch g.want {
	case "factor":
		switch kind := g.below(12); {
		case kind < 2 || g.steep && kind < 7:
			g.open++
			return g.one("factor", "(")
		case kind < 4 || g.steep && kind < 11:
			return g.one("factor", "!")
		case kind < 8:
			return g.one("sign", "any", "none")
		}
		return g.one("op", "a", "b", "c")
	case "op":
		if g.below(2) == 0 {
			return g.one("number", "<", "<=", ">", ">=")
		}
		return g.one("value", "=", "!=")
	case "value":
		if g.below(3) == 0 {
			return g.one("sign", "%"+g.digits("01x", 1+g.below(32)))
		}
		return g.one("tail", "7", "0b11", "1.2.3.4")
	case "number":
		return g.one("sign", "7", "0xff", "1.2.3.4")
	case "tail":
		if g.below(2) == 0 {
			return g.one("number", "/", "..")
		}
	}
	switch {
	case g.open > 0 && g.below(3) == 0:
		g.open--
		return g.one("sign", ")")
	case g.open == 0 && g.below(10) == 0:
		return ""
	}
	return g.one("factor", "&", "|")
}

func TestReadOfMixedLists(t *testing.T) {
	s := source(17)
	met := map[api.Errno]int{}
	for n := range 10000 {
		tokens := s.grown([]int{60, 1000, 100000}[n%3])
		met[checkRead(t, tokens, 0)]++
		checkRead(t, tokens, s.below(len(tokens)+1))
	}
	for _, errno := range []api.Errno{api.OK, api.ErrSyntax, api.ErrDeep, api.ErrNodes} {
		if met[errno] < 100 {
			t.Errorf("the mixed lists met %d only %d times", errno, met[errno])
		}
	}
}

func TestParseReads(t *testing.T) {
	for _, c := range []struct {
		text string
		e    []api.Node
	}{
		{"any", list(anyNode)},
		{" none # none", list(noneNode)},
		{"\n\n\tany\n\n#\n", list(anyNode)},
		{"((any))", list(anyNode)},
		{"a=1&b=2&c=3", list(number("a", 1, 1), number("b", 1, 2), andNode, number("c", 1, 3), andNode)},
		{"a=1|b=2|c=3", list(number("a", 1, 1), number("b", 1, 2), orNode, number("c", 1, 3), orNode)},
		{"a=1|b=2&c=3|d=4", list(number("a", 1, 1), number("b", 1, 2), number("c", 1, 3), andNode, orNode, number("d", 1, 4), orNode)},
		{"a=1&(b=2|c=3)", list(number("a", 1, 1), number("b", 1, 2), number("c", 1, 3), orNode, andNode)},
		{"!a=1&!!b=2", list(number("a", 1, 1), notNode, number("b", 1, 2), notNode, notNode, andNode)},
		{"!(a=1&b=2)", list(number("a", 1, 1), number("b", 1, 2), andNode, notNode)},
		{"a = 0xFF", list(number("a", api.OpIs, 255))},
		{"a != 255.255.255.255", list(number("a", api.OpNot, 4294967295))},
		{"a < 0b101", list(number("a", api.OpBelow, 5))},
		{"a <= 0", list(number("a", api.OpMost, 0))},
		{"a > 1", list(number("a", api.OpAbove, 1))},
		{"a >= 4294967295", list(number("a", api.OpLeast, 4294967295))},
		{"a = 10.0.0.0/8", list(prefix("a", api.OpIs, 167772160, 8))},
		{"a != 0xa/0", list(prefix("a", api.OpNot, 10, 0))},
		{"a = 7/4294967295", list(prefix("a", api.OpIs, 7, 4294967295))},
		{"a = 3..10.0.0.1", list(span("a", api.OpIs, 3, 167772161))},
		{"a != 0..0", list(span("a", api.OpNot, 0, 0))},
		{"a = %x", list(pattern("a", api.OpIs, "x"))},
		{"a != %" + strings.Repeat("01x1", 8), list(pattern("a", api.OpNot, strings.Repeat("01x1", 8)))},
		{"Any = 1 | nonesuch = 2", list(number("Any", 1, 1), number("nonesuch", 1, 2), orNode)},
	} {
		if e, errno, at := expr.Parse(c.text); !slices.Equal(e, c.e) || errno != api.OK || at != 0 {
			t.Errorf("P5.2: Parse(%q) = %v, %d, %d; want %v", c.text, e, errno, at, c.e)
		}
		checkParse(t, c.text)
	}
}

func TestParseTellsTheColumn(t *testing.T) {
	for _, c := range []struct {
		text  string
		errno api.Errno
		at    int
	}{
		{" \t\n\n # é\n", api.ErrSyntax, 0},
		{"é", api.ErrByte, 1},
		{"any $", api.ErrByte, 5},
		{"any any $", api.ErrByte, 9},
		{"any\n\n  any & .", api.ErrByte, 9},
		{"a = 08", api.ErrNumber, 5},
		{"a = 4294967296", api.ErrNumber, 5},
		{"a = %", api.ErrDigits, 5},
		{"a = %" + strings.Repeat("0", 33), api.ErrDigits, 5},
		{"any & " + strings.Repeat("n", 25), api.ErrName, 7},
		{"any \"a", api.ErrQuote, 7},
		{"any \"\\q\"", api.ErrEscape, 6},
		{"any \"\x01\"", api.ErrRune, 6},
		{"any \"" + strings.Repeat("a", 257) + "\"", api.ErrString, 5},
		{strings.Repeat("$", 16385), api.ErrLong, 0},
		{strings.Repeat(" ", 16385), api.ErrLong, 0},
		{strings.Repeat(" ", 16384), api.ErrSyntax, 0},
		{strings.Repeat(" ", 16381) + "any", api.OK, 0},
		{strings.Repeat("$", 1<<20), api.ErrLong, 0},
		{"any # é\n", api.OK, 0},
		{"any # é\n any", api.ErrSyntax, 2},
		{"any\n\n\n   )", api.ErrSyntax, 4},
		{"any &\n any", api.ErrSyntax, 6},
		{"any # é\n\t&", api.ErrSyntax, 2},
		{"(any # é\n)", api.ErrSyntax, 9},
		{"any \"é\" any", api.ErrSyntax, 5},
		{"any & \"é\"", api.ErrSyntax, 7},
		{"any, any", api.ErrSyntax, 4},
		{"a : 3", api.ErrSyntax, 3},
		{"a -> b", api.ErrSyntax, 3},
		{"R1.a = 3", api.ErrSyntax, 1},
		{"a = R1.a", api.ErrSyntax, 5},
		{"a = b", api.ErrSyntax, 5},
		{"a = any", api.ErrSyntax, 5},
		{"a == 1", api.ErrSyntax, 4},
		{"3 = a", api.ErrSyntax, 1},
		{"a ! = 1", api.ErrSyntax, 3},
		{"a !", api.ErrSyntax, 3},
		{"a <= %01", api.ErrSyntax, 6},
		{"a = 1/%01", api.ErrSyntax, 7},
		{"a = 1..", api.ErrSyntax, 8},
		{"a = 1/", api.ErrSyntax, 7},
		{"a = /3", api.ErrSyntax, 5},
		{"a = (1)", api.ErrSyntax, 5},
		{"any | | any", api.ErrSyntax, 7},
		{"any & | any", api.ErrSyntax, 7},
		{"any !any", api.ErrSyntax, 5},
		{"any (any)", api.ErrSyntax, 5},
		{"(any & )", api.ErrSyntax, 8},
		{"(any, any)", api.ErrSyntax, 5},
		{"()", api.ErrSyntax, 2},
		{"\n(\n", api.ErrSyntax, 2},
	} {
		if e, errno, at := expr.Parse(c.text); errno != c.errno || at != c.at || errno != api.OK && e != nil {
			t.Errorf("P5.2: Parse(%.60q) = %v, %d, %d; want %d, %d", c.text, e, errno, at, c.errno, c.at)
		}
		checkParse(t, c.text)
	}
}

func TestParseOfMixedTexts(t *testing.T) {
	s := source(23)
	pieces := []string{"any", "none", "a", "=", "!=", "<", ">=", "1", "70000", "/", "..", "%0x", "!", "&", "|", "(", ")", " ", "\n", "#", "$", "é", "\"x\"", ".", "a.b", ","}
	for range 20000 {
		text := ""
		for range s.below(9) {
			text += pieces[s.below(len(pieces))] + []string{"", " "}[s.below(2)]
		}
		checkParse(t, text)
	}
	met := 0
	for range 5000 {
		text := ""
		for _, token := range s.grown(100000) {
			text += token.Text + []string{" ", "\t"}[s.below(2)]
		}
		if checkParse(t, text) == api.OK {
			met++
		}
	}
	if met < 100 {
		t.Errorf("only %d of the mixed texts were read", met)
	}
}
