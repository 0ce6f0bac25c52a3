package scan_test

import (
	"slices"
	"testing"

	"reach/api"
	"reach/scan"
)

// The examples of chapter 3, by their numbers.

func TestExamplesOfTokens(t *testing.T) {
	for n, c := range []struct {
		text string
		want []api.Token
	}{
		{"rule 7 # x\n\n to", []api.Token{{Kind: api.TokName, Text: "rule", Line: 1, Col: 1}, {Kind: api.TokNumber, Text: "7", Line: 1, Col: 6}, {Kind: api.TokEnd, Text: "\n", Line: 1, Col: 11}, {Kind: api.TokName, Text: "to", Line: 3, Col: 2}, {Kind: api.TokEnd, Text: "\n", Line: 3, Col: 4}}},
		{"a.b 10.0.0.0/8..1", []api.Token{{Kind: api.TokPort, Text: "a.b", Line: 1, Col: 1}, {Kind: api.TokNumber, Text: "10.0.0.0", Line: 1, Col: 5}, {Kind: api.TokSign, Text: "/", Line: 1, Col: 13}, {Kind: api.TokNumber, Text: "8", Line: 1, Col: 14}, {Kind: api.TokSign, Text: "..", Line: 1, Col: 15}, {Kind: api.TokNumber, Text: "1", Line: 1, Col: 17}, {Kind: api.TokEnd, Text: "\n", Line: 1, Col: 18}}},
	} {
		got, e, line, col := scan.Scan(c.text)
		if !slices.Equal(got, c.want) || e != api.OK || line != 0 || col != 0 {
			t.Errorf("%d: Scan(%q) = %v, %d, %d, %d", n+1, c.text, got, e, line, col)
		}
	}
}

func TestExamplesOfFaults(t *testing.T) {
	for _, c := range []struct {
		text      string
		e         api.Errno
		line, col int
	}{
		{"x\n  \"é\" $", api.ErrByte, 2, 7},
		{"a \"b\\q\"", api.ErrEscape, 1, 5},
		{"a \"b", api.ErrQuote, 1, 5},
	} {
		if got, e, line, col := scan.Scan(c.text); got != nil || e != c.e || line != c.line || col != c.col {
			t.Errorf("3, 4: Scan(%q) = %v, %d, %d, %d", c.text, got, e, line, col)
		}
	}
}

func TestExampleOfPrint(t *testing.T) {
	tokens, _, _, _ := scan.Scan("( ! a=1 ) & b : 3 , c")
	if text, e := scan.Print(tokens); text != "(!a = 1) & b:3, c\n" || e != api.OK {
		t.Errorf("5: Print = %q, %d", text, e)
	}
}

func TestExamplesOfQuotedTexts(t *testing.T) {
	if q, e := scan.Quote("a\x00\xff\"\u00e9\u200b"); q != `"a\x00\xff\"é\u{200b}"` || e != api.OK {
		t.Errorf("6: Quote = %s, %d", q, e)
	}
	if s, e, at := scan.Unquote("\"\\u{d800}\""); s != "" || e != api.ErrEscape || at != 1 {
		t.Errorf("7: Unquote = %q, %d, %d", s, e, at)
	}
	if s, e, at := scan.Unquote("\"a\"b"); s != "" || e != api.ErrQuote || at != 3 {
		t.Errorf("7: Unquote = %q, %d, %d", s, e, at)
	}
}

func TestExamplesOfNumbers(t *testing.T) {
	for _, c := range []struct {
		lit string
		v   int
		e   api.Errno
	}{{"10.0.0.1", 167772161, api.OK}, {"0b101", 5, api.OK}, {"4294967296", 0, api.ErrNumber}} {
		if v, e := scan.Value(c.lit); v != c.v || e != c.e {
			t.Errorf("8: Value(%q) = %d, %d", c.lit, v, e)
		}
	}
	if s, e := scan.Number(167772161, true); s != "10.0.0.1" || e != api.OK {
		t.Errorf("8: Number = %q, %d", s, e)
	}
}
