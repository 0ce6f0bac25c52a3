package expr_test

import (
	"strings"
	"testing"

	"reach/api"
	"reach/expr"
	"reach/space"
)

// checkEval holds Eval against its second telling.
func checkEval(t *testing.T, fields []api.Field, e []api.Node, header string) bool {
	t.Helper()
	holds, errno := expr.Eval(fields, e, header)
	if want := tellEval(fields, e, header); holds != want || errno != api.OK {
		t.Fatalf("P5.6: Eval(%v, %v, %q) = %t, %d; want %t", fields, e, header, holds, errno, want)
	}
	return holds
}

// checkSpace holds Space against its second telling.
func checkSpace(t *testing.T, fields []api.Field, e []api.Node) (space.Space, api.Errno) {
	t.Helper()
	s, errno := expr.Space(fields, e)
	if want, wantErrno := tellSpace(fields, e); s.Text() != want.Text() || s.Bits() != want.Bits() || errno != wantErrno {
		t.Fatalf("P5.7: Space(%v, %v) = %q of %d bits, %d; want %q of %d bits, %d", fields, e, s.Text(), s.Bits(), errno, want.Text(), want.Bits(), wantErrno)
	}
	return s, errno
}

// checkHeaders holds Space against Eval for every header of a small layout; P5.8.
func checkHeaders(t *testing.T, fields []api.Field, e []api.Node) {
	t.Helper()
	s, errno := checkSpace(t, fields, e)
	if errno != api.OK {
		return
	}
	eachHeader(s.Bits(), func(header string) {
		if holds := checkEval(t, fields, e, header); holds != s.Has(header) {
			t.Fatalf("P5.8: %v for %s: Eval says %t, the space is %s", e, header, holds, s.Text())
		}
	})
}

func eachHeader(bits int, look func(header string)) {
	header := []byte(strings.Repeat("0", bits))
	for v := range 1 << bits {
		for place := range header {
			header[place] = '0' + byte(v>>(bits-1-place)&1)
		}
		look(string(header))
	}
}

// eachTest calls look with every test of a field of so few bits that fits it.
func eachTest(name string, bits int, look func(n api.Node)) {
	for v := range 1 << bits {
		for op := api.OpIs; op <= api.OpLeast; op++ {
			look(number(name, op, v))
		}
		for op := api.OpIs; op <= api.OpNot; op++ {
			for size := range bits + 1 {
				if v%(1<<(bits-size)) == 0 {
					look(prefix(name, op, v, size))
				}
			}
			for w := v; w < 1<<bits; w++ {
				look(span(name, op, v, w))
			}
		}
	}
	digits := make([]byte, bits)
	var fill func(place int)
	fill = func(place int) {
		if place == bits {
			look(pattern(name, api.OpIs, string(digits)))
			look(pattern(name, api.OpNot, string(digits)))
			return
		}
		for _, digit := range []byte("01x") {
			digits[place] = digit
			fill(place + 1)
		}
	}
	fill(0)
}

func TestAllTestsOfSmallFields(t *testing.T) {
	for bits := 1; bits <= 3; bits++ {
		fields := []api.Field{{Name: "p", Bits: 1}, {Name: "q", Bits: bits}, {Name: "r", Bits: 2}}
		eachTest("q", bits, func(n api.Node) {
			checkHeaders(t, fields, list(n))
			checkHeaders(t, fields, list(n, notNode))
		})
		eachTest("r", 2, func(n api.Node) { checkHeaders(t, fields, list(n)) })
	}
	eachTest("f", 4, func(n api.Node) { checkHeaders(t, []api.Field{{Name: "f", Bits: 4}}, list(n)) })
}

func TestAllSmallExpressions(t *testing.T) {
	fields := []api.Field{{Name: "a", Bits: 2}, {Name: "b", Bits: 1}}
	nodes := list(anyNode, noneNode, number("a", api.OpNot, 2), span("a", api.OpIs, 1, 2), number("b", api.OpIs, 1), notNode, andNode, orNode)
	for size := range 6 {
		eachNodes(nodes, size, func(e []api.Node) {
			if expr.Check(fields, e) == api.OK {
				checkHeaders(t, fields, e)
			}
		})
	}
}

func TestMixedExpressionsHeaderByHeader(t *testing.T) {
	s := source(43)
	for range 1000 {
		fields := s.layout(3)
		checkHeaders(t, fields, s.expression(fields, 1+s.below(7)))
	}
}

func TestMixedExpressionsOfWideLayouts(t *testing.T) {
	s := source(47)
	met := map[api.Errno]int{}
	for range 1000 {
		fields := s.layout(32)
		e := s.expression(fields, 1+s.below(6))
		whole, errno := checkSpace(t, fields, e)
		met[errno]++
		bits := 0
		for _, f := range fields {
			bits += f.Bits
		}
		for range 5 {
			header := s.digits("01", bits)
			if s.below(2) == 0 {
				header = s.near(fields, e)
			}
			if holds := checkEval(t, fields, e, header); errno == api.OK && holds != whole.Has(header) {
				t.Fatalf("P5.8: %v for %s: Eval says %t, the space is %s", e, header, holds, whole.Text())
			}
		}
	}
	if met[api.OK] < 100 || met[api.ErrBudget] < 20 {
		t.Errorf("the mixed expressions met %v", met)
	}
}

// near: a header whose fields are at, or beside, the numbers that an expression names.
func (s *source) near(fields []api.Field, e []api.Node) string {
	header := ""
	for _, f := range fields {
		v := s.value(f.Bits)
		for _, n := range e {
			if n.Test.Field == f.Name && s.below(2) == 0 {
				v = []int{n.Test.Lo, n.Test.Hi}[s.below(2)] + s.below(3) - 1
			}
		}
		v = max(0, min(v, 1<<f.Bits-1))
		for place := range f.Bits {
			header += string(rune('0' + v>>(f.Bits-1-place)&1))
		}
	}
	return header
}

func TestEvalAtTheEnds(t *testing.T) {
	wide := []api.Field{{Name: "a", Bits: 32}, {Name: "b", Bits: 1}}
	least, most := strings.Repeat("0", 33), strings.Repeat("1", 33)
	for _, c := range []struct {
		n           api.Node
		least, most bool
	}{
		{number("a", api.OpIs, 4294967295), false, true},
		{number("a", api.OpNot, 4294967295), true, false},
		{number("a", api.OpBelow, 4294967295), true, false},
		{number("a", api.OpMost, 4294967295), true, true},
		{number("a", api.OpAbove, 4294967295), false, false},
		{number("a", api.OpLeast, 4294967295), false, true},
		{number("a", api.OpBelow, 0), false, false},
		{number("a", api.OpMost, 0), true, false},
		{number("a", api.OpAbove, 0), false, true},
		{number("a", api.OpLeast, 0), true, true},
		{prefix("a", api.OpIs, 0, 0), true, true},
		{prefix("a", api.OpNot, 0, 0), false, false},
		{prefix("a", api.OpIs, 2147483648, 1), false, true},
		{prefix("a", api.OpIs, 4294967295, 32), false, true},
		{span("a", api.OpIs, 0, 4294967295), true, true},
		{span("a", api.OpNot, 0, 4294967295), false, false},
		{span("a", api.OpNot, 1, 4294967294), true, true},
		{pattern("a", api.OpIs, strings.Repeat("x", 31)+"1"), false, true},
		{pattern("a", api.OpNot, strings.Repeat("x", 32)), false, false},
		{number("b", api.OpIs, 1), false, true},
	} {
		atLeast, _ := expr.Eval(wide, list(c.n), least)
		atMost, _ := expr.Eval(wide, list(c.n), most)
		if atLeast != c.least || atMost != c.most {
			t.Errorf("P5.6: %v: %t, %t; want %t, %t", c.n, atLeast, atMost, c.least, c.most)
		}
		s, errno := checkSpace(t, wide, list(c.n))
		if s.Has(least) != c.least || s.Has(most) != c.most || errno != api.OK {
			t.Errorf("P5.8: %v: the space is %s, %d", c.n, s.Text(), errno)
		}
	}
}

func TestEvalRefusesHeaders(t *testing.T) {
	for _, header := range []string{"", "0", "00000000000", "0000000000000", "00000000000x", "x00000000000", "00000000000 ", "00000000000\x00", "00000000000é", "0000000000é", "000000000002", strings.Repeat("0", 16385), strings.Repeat("0", 1<<20)} {
		for _, e := range [][]api.Node{list(anyNode), list(number("dst", 1, 0), number("proto", 1, 0), andNode)} {
			if holds, errno := expr.Eval(layoutF, e, header); holds || errno != api.ErrHeader {
				t.Errorf("P5.6: Eval(%.20q) = %t, %d", header, holds, errno)
			}
		}
	}
}

func TestSpaceKeepsToTheWork(t *testing.T) {
	x := strings.Repeat("x", 8)
	for _, c := range []struct{ text, want string }{
		{"any", x + "xxxx"},
		{"none", "none"},
		{"!any", "none"},
		{"!none", x + "xxxx"},
		{"dst < 0", "none"},
		{"dst != 0..255", "none"},
		{"dst != 0/0", "none"},
		{"dst >= 0", x + "xxxx"},
		{"proto = 3..9", x + "0011+" + x + "01xx+" + x + "100x"},
		{"proto != 3..9", x + "xxxx-" + x + "0011-" + x + "01xx-" + x + "100x"},
		{"!proto != 3..9", x + "0011+" + x + "01xx+" + x + "100x"},
		{"!!proto = 6", x + "0110"},
		{"proto != %1xx1", x + "xxxx-" + x + "1xx1"},
		{"proto != 8/1", x + "xxxx-" + x + "1xxx"},
		{"proto < 8 | proto >= 8", x + "0xxx+" + x + "1xxx"},
		{"any & dst = 64/2 & !proto = 6", "01xxxxxxxxxx-01xxxxxx0110"},
		{"dst = 64/2 & (proto = 6 | proto = 7)", "01xxxxxx0110+01xxxxxx0111"},
		{"proto = 6 & proto = 7", "none"},
		{"proto != 6 & !proto = 6", x + "xxxx-" + x + "0110"},
	} {
		e, _, _ := expr.Parse(c.text)
		s, errno := checkSpace(t, layoutF, e)
		if s.Text() != c.want || s.Bits() != 12 || errno != api.OK {
			t.Errorf("P5.7: Space(%q) = %q of %d bits, %d; want %q", c.text, s.Text(), s.Bits(), errno, c.want)
		}
	}
}

func TestSpaceGivesUpAtItsBudget(t *testing.T) {
	wide := []api.Field{{Name: "a", Bits: 32}, {Name: "b", Bits: 32}, {Name: "c", Bits: 32}, {Name: "d", Bits: 32}, {Name: "e", Bits: 32}}
	for _, c := range []struct {
		text  string
		size  int
		errno api.Errno
	}{
		{"a > 0 | b > 0 | c > 0 | d > 0", 128, api.OK},
		{"a > 0 | b > 0 | c > 0 | d > 0 | e = 0", 0, api.ErrBudget},
		{"none & (a > 0 | b > 0 | c > 0 | d > 0 | e = 0)", 0, api.ErrBudget},
		{"(a > 0 | b > 0 | c > 0 | d > 0 | e = 0) & none", 0, api.ErrBudget},
		{"(a > 0 | b > 0 | c > 0 | d > 0 | e = 0) | any", 0, api.ErrBudget},
		{"a > 0 | b > 0 | c > 0 | d > 0 | a > 0", 128, api.OK},
		{"a > 0 | b > 0 | c > 0 | d > 0 | any", 1, api.OK},
		{"!(a > 0 | b > 0 | c > 0)", 97, api.OK},
		{"!(a > 0 | b > 0 | c > 0 | d > 0)", 0, api.ErrBudget},
		{"!(a > 0 | b > 0 | c > 0 | d > 1)", 128, api.OK},
		{"a = 1..4294967294", 62, api.OK},
		{"a != 1..4294967294", 63, api.OK},
		{"a = 1..4294967294 | b = 1..4294967294", 124, api.OK},
		{"a = 1..4294967294 & b = 1..4294967294", 0, api.ErrBudget},
		{"a = 1..4294967294 & none", 0, api.OK},
		{"a != 1..4294967294 & b != 1..4294967294", 125, api.OK},
		{"a != 1..4294967294 & b != 1..4294967294 & c != 1..4294967294", 0, api.ErrBudget},
		{"(a > 0 | b > 0) & (b > 0 | c > 0)", 0, api.ErrBudget},
	} {
		e, errno, at := expr.Parse(c.text)
		if errno != api.OK {
			t.Fatalf("Parse(%q) = %d, %d", c.text, errno, at)
		}
		s, errno := checkSpace(t, wide, e)
		if s.Size() != c.size || errno != c.errno || errno != api.OK && s.Bits() != 0 {
			t.Errorf("P5.7: Space(%q) has the size %d, %d; want %d, %d", c.text, s.Size(), errno, c.size, c.errno)
		}
		if _, errno := expr.Eval(wide, e, strings.Repeat("0", 160)); errno != api.OK {
			t.Errorf("P5.6: Eval(%q) = %d", c.text, errno)
		}
	}
}
