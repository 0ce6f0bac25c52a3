package expr_test

import (
	"math"
	"slices"
	"testing"

	"reach/api"
	"reach/expr"
	"reach/space"
)

// checkCheck holds Check against its second telling; what passes is printed.
func checkCheck(t *testing.T, fields []api.Field, e []api.Node) api.Errno {
	t.Helper()
	errno := expr.Check(fields, e)
	if want := tellCheck(fields, e); errno != want {
		t.Fatalf("P5.5: Check(%v, %v) = %d; want %d", fields, e, errno, want)
	}
	if _, printed := expr.Print(e); errno == api.OK && printed != api.OK {
		t.Fatalf("P5.5: Print(%v) = %d, though Check lets it pass", e, printed)
	}
	return errno
}

// faulty: all kinds of wrong arguments of Check, and what it says to them.
func faulty() []struct {
	fields []api.Field
	e      []api.Node
	errno  api.Errno
} {
	bad := number("port", api.OpIs, 1)
	return []struct {
		fields []api.Field
		e      []api.Node
		errno  api.Errno
	}{
		{nil, nil, api.ErrFields},
		{nil, make([]api.Node, 65), api.ErrFields},
		{make([]api.Field, 13), make([]api.Node, 65), api.ErrLong},
		{[]api.Field{{Name: "any", Bits: 3}}, list(anyNode), api.ErrFields},
		{[]api.Field{{Name: "a", Bits: 33}}, list(anyNode), api.ErrFields},
		{layoutF, make([]api.Node, 65), api.ErrNodes},
		{layoutF, make([]api.Node, 1<<20), api.ErrNodes},
		{layoutF, chainOf(list(anyNode), list(anyNode, andNode), 32), api.ErrNodes},
		{layoutF, make([]api.Node, 64), api.ErrTree},
		{layoutF, nil, api.ErrTree},
		{layoutF, []api.Node{}, api.ErrTree},
		{layoutF, list(notNode), api.ErrTree},
		{layoutF, list(anyNode, andNode), api.ErrTree},
		{layoutF, list(anyNode, anyNode), api.ErrTree},
		{layoutF, list(anyNode, notNode, orNode, anyNode), api.ErrTree},
		{layoutF, list(bad, bad), api.ErrTree},
		{layoutF, list(api.Node{Kind: 7}), api.ErrTree},
		{layoutF, list(api.Node{Kind: math.MinInt}), api.ErrTree},
		{layoutF, list(api.Node{Kind: api.NodeAny, Test: api.Test{Field: "dst"}}), api.ErrTree},
		{layoutF, list(bad, api.Node{Kind: api.NodeNot, Test: bad.Test}), api.ErrTree},
		{layoutF, chainOf(list(anyNode), list(notNode), 33), api.ErrDeep},
		{layoutF, chainOf(list(bad), list(notNode), 33), api.ErrDeep},
		{layoutF, list(bad), api.ErrNoField},
		{layoutF, list(api.Node{Kind: api.NodeTest}), api.ErrNoField},
		{layoutF, list(number("dst", 9, 1)), api.ErrTest},
		{layoutF, list(number("dst", 0, 1)), api.ErrTest},
		{layoutF, list(span("dst", api.OpBelow, 1, 2)), api.ErrTest},
		{layoutF, list(number("dst", 1, 256)), api.ErrValue},
		{layoutF, list(number("proto", 1, -1)), api.ErrValue},
		{layoutF, list(prefix("dst", 1, 65, 2)), api.ErrValue},
		{layoutF, list(prefix("dst", 1, 0, 9)), api.ErrValue},
		{layoutF, list(span("dst", 1, 9, 3)), api.ErrRange},
		{layoutF, list(pattern("proto", 1, "01x")), api.ErrDigits},
		{layoutF, list(pattern("proto", 1, "01x2")), api.ErrDigits},
		{layoutF, list(span("dst", 1, 9, 3), bad, andNode), api.ErrRange},
		{layoutF, list(bad, span("dst", 1, 9, 3), andNode), api.ErrNoField},
		{layoutF, list(anyNode, span("dst", 1, 9, 3), bad, andNode, orNode), api.ErrRange},
		{layoutF, list(number("dst", 1, 9), pattern("dst", 1, ""), orNode, notNode, bad, andNode), api.ErrDigits},
		{layoutF, list(number("dst", 1, 9), number("dst", 1, 8), bad, andNode, orNode), api.ErrNoField},
	}
}

func TestCheckRefuses(t *testing.T) {
	for _, c := range faulty() {
		if errno := expr.Check(c.fields, c.e); errno != c.errno {
			t.Errorf("P5.5: Check(%.100v, %.300v) = %d; want %d", c.fields, c.e, errno, c.errno)
		}
		checkCheck(t, c.fields, c.e)
	}
}

// Eval and Space say what Check says, ahead of whatever else is wrong.
func TestErrorsOfCheckComeFirst(t *testing.T) {
	for _, c := range faulty() {
		for _, header := range []string{"", "000000000000", "00000000000x", "0"} {
			if holds, errno := expr.Eval(c.fields, c.e, header); holds || errno != c.errno {
				t.Errorf("P5.6: Eval(%.100v, %.300v, %q) = %t, %d; want %d", c.fields, c.e, header, holds, errno, c.errno)
			}
		}
		if s, errno := expr.Space(c.fields, c.e); s.Bits() != 0 || s.Size() != 0 || s.Text() != (space.Space{}).Text() || errno != c.errno {
			t.Errorf("P5.7: Space(%.100v, %.300v) = %q, %d; want %d", c.fields, c.e, s.Text(), errno, c.errno)
		}
	}
}

func TestCheckTakes(t *testing.T) {
	for _, e := range [][]api.Node{
		list(anyNode), list(noneNode), list(number("dst", 1, 255)), list(number("dst", 6, 0)), list(prefix("proto", 2, 8, 1)), list(span("proto", 1, 15, 15)), list(pattern("proto", 1, "xxxx")),
		chainOf(list(anyNode), list(notNode), 32), chainOf(list(anyNode), list(anyNode, orNode), 31), rightOf(slices.Repeat(list(andNode), 31)),
	} {
		if errno := expr.Check(layoutF, e); errno != api.OK {
			t.Errorf("P5.5: Check(%v) = %d", e, errno)
		}
		checkCheck(t, layoutF, e)
	}
}

func TestCheckOfAllShortLists(t *testing.T) {
	nodes := list(anyNode, number("dst", 1, 1), number("dst", 1, 256), number("port", 1, 1), notNode, andNode, orNode, api.Node{}, api.Node{Kind: api.NodeOr, Test: api.Test{Hi: 1}})
	for size := range 6 {
		eachNodes(nodes, size, func(e []api.Node) { checkCheck(t, layoutF, e) })
	}
}

func TestCheckOfMixedExpressions(t *testing.T) {
	s := source(37)
	met := map[api.Errno]int{}
	for range 2000 {
		fields := s.layout(32)
		e := s.expression(fields, 1+s.below(20))
		if s.below(3) == 0 {
			at := s.below(len(e))
			e[at] = []api.Node{number("z", 1, 1), number("a", 7, 1), number("a", 1, 1<<33), span("a", 1, 1, 0), pattern("a", 1, "?"), notNode, {}}[s.below(7)]
		}
		met[checkCheck(t, fields, e)]++
		checkCheck(t, s.layout(32), e)
		checkCheck(t, layoutF, s.deep(20+s.below(46)))
	}
	for _, errno := range []api.Errno{api.OK, api.ErrTree, api.ErrNoField, api.ErrTest, api.ErrValue, api.ErrRange, api.ErrDigits} {
		if met[errno] < 20 {
			t.Errorf("the mixed expressions met %d only %d times", errno, met[errno])
		}
	}
}
