package expr_test

import (
	"slices"
	"strings"
	"testing"

	"reach/api"
	"reach/expr"
	"reach/scan"
)

// The examples of chapter 5.

func TestExamplesOfTexts(t *testing.T) {
	for _, c := range []struct {
		read, print string
		e           []api.Node
	}{
		{"dst=64/2&!proto=6|any", "dst = 0.0.0.64/2 & !proto = 6 | any", list(prefix("dst", api.OpIs, 64, 2), number("proto", api.OpIs, 6), notNode, andNode, anyNode, orNode)},
		{"a = 1 & (b < 2 & c != 3..4)", "a = 1 & (b < 2 & c != 3..4)", list(number("a", api.OpIs, 1), number("b", api.OpBelow, 2), span("c", api.OpNot, 3, 4), andNode, andNode)},
		{"!((a = 1 | b = 2) & c = %0x1)", "!((a = 1 | b = 2) & c = %0x1)", list(number("a", api.OpIs, 1), number("b", api.OpIs, 2), orNode, pattern("c", api.OpIs, "0x1"), andNode, notNode)},
		{"a = 70000", "a = 0.1.17.112", list(number("a", api.OpIs, 70000))},
	} {
		if e, errno, at := expr.Parse(c.read); !slices.Equal(e, c.e) || errno != api.OK || at != 0 {
			t.Errorf("P5.2: Parse(%q) = %v, %d, %d; want %v", c.read, e, errno, at, c.e)
		}
		if text, errno := expr.Print(c.e); text != c.print || errno != api.OK {
			t.Errorf("P5.3: Print(%v) = %q, %d; want %q", c.e, text, errno, c.print)
		}
	}
}

func TestExamplesOfFaults(t *testing.T) {
	for _, c := range []struct {
		text  string
		errno api.Errno
		at    int
	}{
		{"", api.ErrSyntax, 0}, {"any any", api.ErrSyntax, 5}, {"a = ", api.ErrSyntax, 5}, {"a < 1/2", api.ErrSyntax, 6}, {"any\n none", api.ErrSyntax, 2},
		{"(any", api.ErrSyntax, 5}, {"any)", api.ErrSyntax, 4}, {"any = 3", api.ErrSyntax, 5}, {"!", api.ErrSyntax, 2}, {"a.b = 1", api.ErrSyntax, 1},
		{strings.Repeat("!", 33) + "any", api.ErrDeep, 33},
		{"any" + strings.Repeat("&any", 32), api.ErrNodes, 129},
	} {
		if e, errno, at := expr.Parse(c.text); e != nil || errno != c.errno || at != c.at {
			t.Errorf("P5.2: Parse(%q) = %v, %d, %d; want %d, %d", c.text, e, errno, at, c.errno, c.at)
		}
	}
}

func TestExampleOfRead(t *testing.T) {
	tokens, _, _, _ := scan.Scan("x any set")
	if e, at, errno := expr.Read(tokens, 1); !slices.Equal(e, list(anyNode)) || at != 2 || errno != api.OK {
		t.Errorf("P5.1: Read = %v, %d, %d", e, at, errno)
	}
}

func TestExamplesOfMeaning(t *testing.T) {
	for _, c := range []struct {
		e     []api.Node
		errno api.Errno
	}{
		{list(number("dst", api.OpIs, 300)), api.ErrValue}, {list(number("port", api.OpIs, 1)), api.ErrNoField}, {list(anyNode, anyNode), api.ErrTree}, {nil, api.ErrTree},
	} {
		if errno := expr.Check(layoutF, c.e); errno != c.errno {
			t.Errorf("P5.5: Check(%v) = %d; want %d", c.e, errno, c.errno)
		}
	}
	if holds, errno := expr.Eval(layoutF, list(span("proto", api.OpNot, 3, 5)), "000000000100"); holds || errno != api.OK {
		t.Errorf("P5.6: Eval = %t, %d", holds, errno)
	}
	for _, c := range []struct {
		e    []api.Node
		want string
	}{
		{list(number("proto", api.OpNot, 6)), "xxxxxxxxxxxx-xxxxxxxx0110"},
		{list(prefix("dst", api.OpIs, 64, 2), number("proto", api.OpIs, 6), orNode, notNode), "xxxxxxxxxxxx-01xxxxxxxxxx-xxxxxxxx0110"},
		{list(number("proto", api.OpBelow, 3)), "xxxxxxxx000x+xxxxxxxx0010"},
	} {
		if s, errno := expr.Space(layoutF, c.e); s.Text() != c.want || errno != api.OK {
			t.Errorf("P5.7: Space(%v) = %q, %d; want %q", c.e, s.Text(), errno, c.want)
		}
	}
}
