package expr_test

import (
	"math"
	"slices"
	"strings"
	"testing"

	"reach/api"
	"reach/expr"
)

// checkPrint holds Print against its second telling, and reads back what it writes; P5.3, P5.4.
func checkPrint(t *testing.T, e []api.Node) {
	t.Helper()
	text, errno := expr.Print(e)
	if want, wantErrno := tellPrint(e); text != want || errno != wantErrno {
		t.Fatalf("P5.3: Print(%v) = %q, %d; want %q, %d", e, text, errno, want, wantErrno)
	}
	if errno != api.OK {
		return
	}
	if back, errno, at := expr.Parse(text); !slices.Equal(back, e) || errno != api.OK || at != 0 {
		t.Fatalf("P5.4: Parse(%q) = %v, %d, %d; want %v", text, back, errno, at, e)
	}
}

// withoutBrackets calls look with a text less each of its pairs of brackets.
func withoutBrackets(text string, look func(less string)) {
	var opened []int
	for at := range len(text) {
		switch text[at] {
		case '(':
			opened = append(opened, at)
		case ')':
			from := opened[len(opened)-1]
			opened = opened[:len(opened)-1]
			look(text[:from] + text[from+1:at] + text[at+1:])
		}
	}
}

// eachNodes calls look with every list of so many of these nodes.
func eachNodes(alphabet []api.Node, size int, look func(e []api.Node)) {
	e := make([]api.Node, size)
	var fill func(place int)
	fill = func(place int) {
		if place == size {
			look(e)
			return
		}
		for _, n := range alphabet {
			e[place] = n
			fill(place + 1)
		}
	}
	fill(0)
}

func TestPrintOfAllShortLists(t *testing.T) {
	test := number("a", api.OpIs, 1)
	wrong := []api.Node{{}, {Kind: 7}, {Kind: -1}, {Kind: api.NodeAny, Test: api.Test{Lo: 1}}, {Kind: api.NodeNot, Test: test.Test}, {Kind: api.NodeOr, Test: api.Test{Pattern: "x"}}, {Kind: api.NodeTest}}
	for size := range 5 {
		eachNodes(append(list(anyNode, noneNode, test, notNode, andNode, orNode), wrong...), size, func(e []api.Node) { checkPrint(t, e) })
	}
	for size := range 8 {
		eachNodes(list(anyNode, test, notNode, andNode, orNode), size, func(e []api.Node) { checkPrint(t, e) })
	}
}

func TestPrintHasNoBracketTooMany(t *testing.T) {
	pairs := 0
	for size := range 10 {
		eachNodes(list(anyNode, notNode, andNode, orNode), size, func(e []api.Node) {
			text, errno := expr.Print(e)
			if errno != api.OK {
				return
			}
			withoutBrackets(text, func(less string) {
				pairs++
				if back, errno, _ := expr.Parse(less); errno == api.OK && slices.Equal(back, e) {
					t.Fatalf("P5.3: Print(%v) = %q; %q says the same", e, text, less)
				}
			})
		})
	}
	if pairs < 1000 {
		t.Errorf("only %d pairs of brackets were met", pairs)
	}
}

func TestPrintSetsBrackets(t *testing.T) {
	a, b, c := number("a", 1, 1), number("b", 1, 2), number("c", 1, 3)
	for _, k := range []struct {
		e    []api.Node
		text string
	}{
		{list(a, b, andNode, c, andNode), "a = 1 & b = 2 & c = 3"},
		{list(a, b, c, andNode, andNode), "a = 1 & (b = 2 & c = 3)"},
		{list(a, b, orNode, c, orNode), "a = 1 | b = 2 | c = 3"},
		{list(a, b, c, orNode, orNode), "a = 1 | (b = 2 | c = 3)"},
		{list(a, b, andNode, c, orNode), "a = 1 & b = 2 | c = 3"},
		{list(a, b, c, andNode, orNode), "a = 1 | b = 2 & c = 3"},
		{list(a, b, orNode, c, andNode), "(a = 1 | b = 2) & c = 3"},
		{list(a, b, c, orNode, andNode), "a = 1 & (b = 2 | c = 3)"},
		{list(a, notNode, b, notNode, andNode), "!a = 1 & !b = 2"},
		{list(a, b, andNode, notNode), "!(a = 1 & b = 2)"},
		{list(a, b, orNode, notNode, c, andNode), "!(a = 1 | b = 2) & c = 3"},
		{list(a, notNode, notNode), "!!a = 1"},
		{list(anyNode, notNode), "!any"},
		{list(noneNode, anyNode, orNode), "none | any"},
	} {
		if text, errno := expr.Print(k.e); text != k.text || errno != api.OK {
			t.Errorf("P5.3: Print(%v) = %q, %d; want %q", k.e, text, errno, k.text)
		}
		checkPrint(t, k.e)
	}
}

func TestPrintWritesNumbers(t *testing.T) {
	for _, c := range []struct {
		n    api.Node
		text string
	}{
		{number("a", api.OpIs, 0), "a = 0"},
		{number("a", api.OpNot, 65535), "a != 65535"},
		{number("a", api.OpBelow, 65536), "a < 0.1.0.0"},
		{number("a", api.OpMost, 4294967295), "a <= 255.255.255.255"},
		{number("a", api.OpAbove, 16909060), "a > 1.2.3.4"},
		{number("a", api.OpLeast, 7), "a >= 7"},
		{prefix("a", api.OpIs, 0, 0), "a = 0.0.0.0/0"},
		{prefix("a", api.OpNot, 65536, 65535), "a != 0.1.0.0/65535"},
		{prefix("a", api.OpIs, 4294967295, 65536), "a = 255.255.255.255/0.1.0.0"},
		{span("a", api.OpIs, 0, 65535), "a = 0..65535"},
		{span("a", api.OpNot, 65536, 65537), "a != 0.1.0.0..0.1.0.1"},
		{span("a", api.OpIs, 9, 65536), "a = 9..0.1.0.0"},
		{span("a", api.OpIs, 65536, 9), "a = 0.1.0.0..9"},
		{pattern("_9", api.OpIs, "0"), "_9 = %0"},
		{pattern("a", api.OpNot, strings.Repeat("x", 32)), "a != %" + strings.Repeat("x", 32)},
		{number(strings.Repeat("n", 24), api.OpIs, 1), strings.Repeat("n", 24) + " = 1"},
	} {
		if text, errno := expr.Print(list(c.n)); text != c.text || errno != api.OK {
			t.Errorf("P5.3: Print(%v) = %q, %d; want %q", c.n, text, errno, c.text)
		}
		checkPrint(t, list(c.n))
		checkPrint(t, list(c.n, notNode, anyNode, orNode))
	}
}

func TestPrintRefusesTestsThatNoTextGives(t *testing.T) {
	names := []string{"a", "", "any", "none", "1", "a.b", " a", "a ", "a\n", "\na", "#", "a #", "a = 1 #", "any | a", "!a", "(a", "é", "a\xff", "\"a\"", strings.Repeat("n", 24), strings.Repeat("n", 25), strings.Repeat("n", 16385), strings.Repeat("n", 1<<20)}
	for _, name := range names {
		for _, n := range []api.Node{number(name, 1, 1), prefix(name, 2, 1, 1), span(name, 1, 1, 2), pattern(name, 1, "0")} {
			checkPrint(t, list(n))
			checkPrint(t, list(n, anyNode, andNode))
			checkPrint(t, list(anyNode, n, orNode, notNode))
		}
	}
	digits := []string{"", "0", "01x", "2", "X", "%0", "0 ", " 0", "0\n", "0 #", "0x1|any", strings.Repeat("1", 32), strings.Repeat("1", 33), strings.Repeat("x", 1<<20)}
	numbers := []int{0, 1, 65536, 4294967295, 4294967296, -1, math.MinInt, math.MaxInt}
	for op := -1; op <= 8; op++ {
		for form := -1; form <= 6; form++ {
			for _, v := range numbers {
				for _, text := range digits {
					checkPrint(t, list(api.Node{Kind: api.NodeTest, Test: api.Test{Field: "a", Op: op, Form: form, Lo: v, Pattern: text}}))
				}
				for _, w := range numbers {
					checkPrint(t, list(api.Node{Kind: api.NodeTest, Test: api.Test{Field: "a", Op: op, Form: form, Lo: v, Hi: w}}))
					checkPrint(t, list(api.Node{Kind: api.NodeTest, Test: api.Test{Field: "a", Op: op, Form: form, Lo: v, Len: w}}))
					checkPrint(t, list(api.Node{Kind: api.NodeTest, Test: api.Test{Field: "a", Op: op, Form: form, Hi: v, Len: w}}))
				}
			}
		}
	}
	for _, far := range []int{math.MinInt, math.MaxInt, 1 << 40} {
		checkPrint(t, list(api.Node{Kind: far}))
		checkPrint(t, list(api.Node{Kind: api.NodeTest, Test: api.Test{Field: "a", Op: far, Form: 1}}))
		checkPrint(t, list(api.Node{Kind: api.NodeTest, Test: api.Test{Field: "a", Op: 1, Form: far}}))
	}
}

// chainOf: an expression of that nesting, made by one way of nesting again and again.
func chainOf(begin []api.Node, more []api.Node, times int) []api.Node {
	e := slices.Clone(begin)
	for range times {
		e = append(e, more...)
	}
	return e
}

// rightOf: leaves that are joined from the right, so that each join but the last stands in brackets.
func rightOf(joins []api.Node) []api.Node {
	e := slices.Repeat(list(anyNode), len(joins)+1)
	return append(e, joins...)
}

func TestPrintBoundsTheNesting(t *testing.T) {
	for _, c := range []struct {
		e     []api.Node
		errno api.Errno
	}{
		{chainOf(list(anyNode), list(notNode), 32), api.OK},
		{chainOf(list(anyNode), list(notNode), 33), api.ErrDeep},
		{chainOf(list(anyNode), list(notNode), 63), api.ErrDeep},
		{chainOf(list(anyNode), list(anyNode, andNode, notNode), 16), api.OK},
		{chainOf(list(anyNode), list(anyNode, andNode, notNode), 17), api.ErrDeep},
		{append(chainOf(list(anyNode), list(anyNode, andNode, notNode), 16), anyNode, andNode), api.OK},
		{append(chainOf(list(anyNode), list(anyNode, orNode, notNode), 16), notNode), api.ErrDeep},
		{chainOf(list(anyNode), list(anyNode, andNode), 31), api.OK},
		{chainOf(list(anyNode), list(anyNode, orNode), 31), api.OK},
		{rightOf(slices.Repeat(list(andNode), 31)), api.OK},
		{rightOf(slices.Repeat(list(orNode), 31)), api.OK},
		{slices.Concat(slices.Repeat(list(anyNode), 31), slices.Repeat(list(notNode), 3), slices.Repeat(list(andNode), 30)), api.OK},
		{slices.Concat(slices.Repeat(list(anyNode), 31), slices.Repeat(list(notNode), 4), slices.Repeat(list(andNode), 29)), api.ErrTree},
		{slices.Concat(slices.Repeat(list(anyNode), 30), slices.Repeat(list(notNode), 4), slices.Repeat(list(andNode), 29)), api.OK},
		{slices.Concat(slices.Repeat(list(anyNode), 30), slices.Repeat(list(notNode), 5), slices.Repeat(list(andNode), 29)), api.ErrDeep},
		{make([]api.Node, 64), api.ErrTree},
		{make([]api.Node, 65), api.ErrNodes},
		{chainOf(list(anyNode), list(anyNode, andNode), 32), api.ErrNodes},
		{chainOf(list(anyNode), list(notNode), 64), api.ErrNodes},
		{make([]api.Node, 1<<20), api.ErrNodes},
		{append(list(number("any", 1, 1)), slices.Repeat(list(notNode), 40)...), api.ErrTree},
	} {
		if text, errno := expr.Print(c.e); errno != c.errno || errno != api.OK && text != "" {
			t.Errorf("P5.3: Print(%v) = %q, %d; want %d", c.e, text, errno, c.errno)
		}
		checkPrint(t, c.e)
	}
}

func TestPrintOfMixedExpressions(t *testing.T) {
	s := source(29)
	met := map[api.Errno]int{}
	for range 2000 {
		e := s.expression(layoutF, 1+s.below(32))
		checkPrint(t, e)
		_, errno := expr.Print(e)
		met[errno]++
		e[s.below(len(e))] = []api.Node{anyNode, notNode, andNode, orNode, {}, number("a", 1, 1), span("b", 3, 1, 2)}[s.below(7)]
		checkPrint(t, e)
	}
	for n := range 5000 {
		e := s.deep(20 + n%45)
		checkPrint(t, e)
		_, errno := expr.Print(e)
		met[errno]++
	}
	for _, errno := range []api.Errno{api.OK, api.ErrDeep, api.ErrNodes} {
		if met[errno] < 100 {
			t.Errorf("the mixed expressions met %d only %d times", errno, met[errno])
		}
	}
}

// deep: an expression that mostly grows on one side.
func (s *source) deep(size int) []api.Node {
	e := list(anyNode)
	for len(e) < size {
		join := []api.Node{andNode, orNode}[s.below(2)]
		switch s.below(8) {
		case 0, 1, 2, 3:
			e = append(e, notNode)
		case 4:
			e = append(e, noneNode, join)
		default:
			e = append(append(list(noneNode), e...), join)
		}
	}
	return e
}

// The second half of P5.4: what Print makes of what Parse answers says the same, and is the last word.
func TestPrintOfWhatParseAnswers(t *testing.T) {
	s := source(31)
	for range 3000 {
		text := ""
		for _, token := range s.grown(100000) {
			text += token.Text + " "
		}
		e, errno, _ := expr.Parse(text)
		if errno != api.OK {
			continue
		}
		first, errno := expr.Print(e)
		again, _, _ := expr.Parse(first)
		if second, _ := expr.Print(again); errno != api.OK || second != first || !slices.Equal(again, e) {
			t.Fatalf("P5.4: %q is written %q and then %q, %d", text, first, second, errno)
		}
	}
}
