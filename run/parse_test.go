package run_test

// P17.1: the edges of the query text, one by one, with what the document says of each written out.

import (
	"fmt"
	"strings"
	"testing"

	"reach/api"
	"reach/run"
)

const (
	nodeAny = "{1 { 0 0 0 0 0 }}"
	tenDst  = "{3 {dst 1 2 167772160 0 8 }}"
)

func TestEachKindOfQuery(t *testing.T) {
	for _, e := range [][2]string{
		{"reach R1.a to R4.z where dst = 10.0.0.0/8 hops 8", `1 "R1.a" "R4.z" [` + tenDst + `] "" [] 8`},
		{"missed R1.a to R4.z where any hops 8", `2 "R1.a" "R4.z" [` + nodeAny + `] "" [] 8`},
		{"loop R1.a where any hops 33", `3 "R1.a" "" [` + nodeAny + `] "" [] 33`},
		{"lost R1.a where any & dst=10.0.0.0/8 hops 8", `4 "R1.a" "" [` + nodeAny + " " + tenDst + ` {5 { 0 0 0 0 0 }}] "" [] 8`},
		{"isolate red from blue hops 8", `5 "red" "blue" [] "" [] 8`},
		{`path R1.a where any along "R1 .* FW .* R4" hops 8`, `6 "R1.a" "" [` + nodeAny + `] "R1 .* FW .* R4" [] 8`},
		{`avoid R1.a to R4.z where any along ".* FW .*" hops 8`, `7 "R1.a" "R4.z" [` + nodeAny + `] ".* FW .*" [] 8`},
		{"cover hops 8", `8 "" "" [] "" [] 8`},
		{"trace R1.a hops 8", `9 "R1.a" "" [] "" [] 8`},
		{"trace R1.a set dst = 10.0.0.1, src = 7 hops 8", `9 "R1.a" "" [] "" [{dst 167772161} {src 7}] 8`},
		// A text says what its pieces say, a name may be any name, a field may be set twice.
		{`path R1.a where any along "\x52\u{31}\x20.*" hops 0`, `6 "R1.a" "" [` + nodeAny + `] "R1 .*" [] 0`},
		{`path R1.a where any along "" hops 0`, `6 "R1.a" "" [` + nodeAny + `] "" [] 0`},
		{"isolate from from to hops 1", `5 "from" "to" [] "" [] 1`},
		{"trace set.hops set hops = 4294967295,hops=0x10 hops 0b11", `9 "set.hops" "" [] "" [{hops 4294967295} {hops 16}] 3`},
		{"reach to.to to to.to where hops = 10.0.0.0/8 hops 0.0.0.64", `1 "to.to" "to.to" [{3 {hops 1 2 167772160 0 8 }}] "" [] 64`},
	} {
		check(t, fmt.Sprintf("P17.1: %q", e[0]), asks(e[0]), "budget 1024; "+e[1])
		check(t, fmt.Sprintf("P17.1: %q", e[0]), asks("\n# x\r\n\tbudget 0x1f4 # y\n\n "+e[0]+"# z"), "budget 500; "+e[1])
	}
}

// checkErrors: each text has its error, as number and line.
func checkErrors(t *testing.T, list map[string]string) {
	t.Helper()
	for query, want := range list {
		check(t, fmt.Sprintf("P17.1: %.300q", query), asks(query), "error "+strings.Replace(want, ",", " in line", 1))
	}
}

func covers(count int) string { return strings.Repeat("cover hops 1\n", count) }

// The errors of the whole text ahead of all others: its length, then the scanner's, wherever they stand.
func TestErrorsOfTheScanner(t *testing.T) {
	long := strings.Repeat(" ", api.MaxText-len("cover hops 1"))
	check(t, "P17.1: as long as may be", asks("cover hops 1"+long), `budget 1024; 8 "" "" [] "" [] 1`)
	checkErrors(t, map[string]string{
		"cover hops 1" + long + " ":              "2, 0",
		strings.Repeat("$", api.MaxText+1):       "2, 0",
		"bogus\n$":                               "30, 2",
		"cover hops 1\n\n cover hops 007":        "31, 3",
		"bogus\n\"":                              "32, 2",
		"bogus\n\"\x01\"":                        "33, 2",
		"bogus\nbogus \"\\q\"\n$":                "34, 2",
		"bogus\n" + strings.Repeat("n", 25):      "36, 2",
		"\"" + strings.Repeat("n", 257) + "\"":   "37, 1",
		covers(9) + "%2":                         "44, 10",
		"loop A.a where any hops 4294967296":     "31, 1",
		"\xff":                                   "30, 1",
		"budget 0\nloop A.a.b where any hops 65": "30, 2",
	})
}

func TestErrorsOfTheFirstWord(t *testing.T) {
	checkErrors(t, map[string]string{
		"bogus":                      "60, 1",
		"Cover hops 1":               "60, 1",
		"covers hops 1":              "60, 1",
		"cover.cover hops 1":         "60, 1",
		"7":                          "60, 1",
		"\"cover\" hops 1":           "60, 1",
		"= cover hops 1":             "60, 1",
		"%01x":                       "60, 1",
		"hops 1":                     "60, 1",
		"reply":                      "60, 1",
		"network \"lab\"":            "60, 1",
		covers(8) + "bogus":          "60, 9",
		"\n\ncover hops 1\n#\nbogus": "60, 5",
		// The budget has its place ahead of all, once.
		"cover hops 1\nbudget 7":         "61, 2",
		"budget 7\nbudget 7":             "61, 2",
		"budget 7\nbudget":               "61, 2",
		"budget 7\n\n\nbudget 0 0":       "61, 4",
		covers(8) + "budget 1":           "61, 9",
		covers(7) + "budget 1\nbogus":    "61, 8",
		"bogus\nbudget 7":                "60, 1",
		"cover hops 1\nbudget 7\nbogus":  "61, 2",
		"cover hops 65\ncover hops\nxxx": "1, 1",
		// Eight queries, and no more.
		covers(9):                             "71, 9",
		covers(8) + "cover":                   "71, 9",
		covers(8) + "\n\ncover hops 65":       "71, 11",
		"budget 1024\n" + covers(9):           "71, 10",
		covers(8) + "path 1\nbogus":           "71, 9",
		covers(7) + "cover hops\ncover hops1": "50, 8",
	})
	for count := 1; count < 9; count++ {
		want := "budget 3" + strings.Repeat(`; 8 "" "" [] "" [] 1`, count)
		check(t, "P17.1: so many queries", asks("budget 3\n"+covers(count)), want)
	}
}

// The first token that offends decides, whatever its error is.
func TestTheFirstTokenThatOffends(t *testing.T) {
	checkErrors(t, map[string]string{
		"budget":                                         "50, 1",
		"budget 0":                                       "1, 1",
		"budget 0 0":                                     "1, 1",
		"budget 1025 x":                                  "1, 1",
		"budget 4294967295":                              "1, 1",
		"budget 7 7":                                     "50, 1",
		"budget x":                                       "50, 1",
		"budget A.a":                                     "50, 1",
		"budget \"7\"":                                   "50, 1",
		"budget 7 cover hops 1":                          "50, 1",
		"cover hops 65 2":                                "1, 1",
		"cover hops 64 65":                               "50, 1",
		"cover hops 4294967295":                          "1, 1",
		"cover Hops 65":                                  "50, 1",
		"cover 65":                                       "50, 1",
		"cover hops\n1":                                  "50, 1",
		"loop A.a\nwhere any hops 1":                     "50, 1",
		"loop R1 where any hops 65":                      "50, 1",
		"loop A.a where a = 1/ hops 65":                  "50, 1",
		"loop A.a where any\nhops 1":                     "50, 1",
		"loop A.a where any any hops 65":                 "50, 1",
		"loop A.a where any hops 65\nbogus":              "1, 1",
		"loop A.a to A.b where any hops 1":               "50, 1",
		"reach A.a where any hops 1":                     "50, 1",
		"reach A.a to A where any hops 1":                "50, 1",
		"reach A.a to A.b hops 1":                        "50, 1",
		"isolate A.a from blue hops 1":                   "50, 1",
		"isolate red from A.a hops 1":                    "50, 1",
		"isolate red to blue hops 1":                     "50, 1",
		"isolate red, blue hops 1":                       "50, 1",
		`path A.a where any along "(" hops 99`:           "140, 1",
		`path A.a where any along "a" hops 99`:           "1, 1",
		`path A.a where any along "(" x`:                 "140, 1",
		`path A.a where any along x "("`:                 "50, 1",
		`path A.a where any hops 1`:                      "50, 1",
		`path A.a where ! along "(" hops 1`:              "50, 1",
		`path A.a to A.b where any along "." hops 1`:     "50, 1",
		`avoid A.a where any along "." hops 1`:           "50, 1",
		`avoid A.a to A.b where any along "\x00" hops 1`: "140, 1",
		`avoid A.a to A.b where any along %1 hops 1`:     "50, 1",
		"trace A.a":                                      "50, 1",
		"trace A hops 65":                                "50, 1",
		"trace A.a set hops 65":                          "50, 1",
		"trace A.a set a = 1, hops 65":                   "50, 1",
		"trace A.a set a = 1 b = 1 hops 65":              "50, 1",
		"trace A.a set a = %1 hops 65":                   "50, 1",
		"trace A.a set A.a = 1 hops 65":                  "50, 1",
		"trace A.a set a < 1 hops 65":                    "50, 1",
		"trace A.a set a = 1 hops 65":                    "1, 1",
		"trace A.a, hops 65":                             "50, 1",
		"trace A.a where any hops 1":                     "50, 1",
		"cover hops 1\n\ncover hops 1\n lost\ncover":     "50, 4",
	})
}

// Within an expression the error of expr.Read counts: too deep, too many nodes.
func TestErrorsOfExpressions(t *testing.T) {
	deep := func(count int) string { return strings.Repeat("!", count) + "any" }
	many := func(count int) string { return "any" + strings.Repeat("&any", count) }
	for _, form := range []string{"reach A.a to A.b where %s hops %d", "missed A.a to A.b where %s hops %d", "loop A.a where %s hops %d", "lost A.a where %s hops %d", `path A.a where %s along "." hops %d`, `avoid A.a to A.b where %s along "." hops %d`} {
		for _, e := range []string{deep(32), many(31)} {
			if got := asks(fmt.Sprintf(form, e, 1)); !strings.HasPrefix(got, "budget 1024; ") {
				t.Errorf("P17.1: %s with %s: %s", form, e, got)
			}
		}
		checkErrors(t, map[string]string{
			fmt.Sprintf(form, deep(33), 65):         "53, 1",
			fmt.Sprintf("\n"+form, many(32), 65):    "51, 2",
			fmt.Sprintf(form, deep(33)+"(((", 1):    "53, 1",
			fmt.Sprintf(form, "("+many(31), 65):     "50, 1",
			fmt.Sprintf(form, "any any", 65):        "50, 1",
			fmt.Sprintf(form, "a = 1 & A.a < 1", 1): "50, 1",
		})
	}
}

// All that trail.Compile refuses is ErrPattern; its limits are those of a pattern.
func TestErrorsOfPatterns(t *testing.T) {
	for text, fits := range map[string]bool{
		strings.Repeat(".", 48):                           true,
		strings.Repeat(".", 49):                           false,
		strings.Repeat("(", 33) + strings.Repeat(")", 33): false,
		strings.Repeat("(", 32) + strings.Repeat(")", 32): true,
		strings.Repeat(" ", 256):                          true,
		strings.Repeat("n", 24):                           true,
		strings.Repeat("n", 25):                           false,
		"!":                                               false, "a$": false, "*": false, "a)": false, "a\\n": false, "\\u{e9}": false, "": true, "|": true, "R1.a.*": true,
	} {
		want := "error 140 in line 1"
		if fits {
			want = fmt.Sprintf(`budget 1024; 6 "A.a" "" [%s] %q [] 2`, nodeAny, text)
		}
		check(t, fmt.Sprintf("P17.1: the pattern %q", text), asks(`path A.a where any along "`+text+`" hops 2`), want)
	}
}

// Twelve sets, and no more: the comma behind them offends, not what stands behind it.
func TestSoManySets(t *testing.T) {
	sets := func(count int) string { return "trace A.a set a = 1" + strings.Repeat(", a = 1", count-1) }
	for _, count := range []int{1, 2, 11, 12} {
		list, _, errno, _ := run.Parse(sets(count) + " hops 1")
		if errno != api.OK || len(list) != 1 || len(list[0].Sets) != count {
			t.Errorf("P17.1: %d sets: %v, %d", count, list, errno)
		}
	}
	checkErrors(t, map[string]string{
		sets(13) + " hops 1":          "183, 1",
		"\n" + sets(12) + ",":         "183, 2",
		sets(12) + ", = hops":         "183, 1",
		sets(14) + " hops 65":         "183, 1",
		sets(12) + " , , hops 65":     "183, 1",
		sets(12) + " hops 65":         "1, 1",
		sets(11) + ", hops 65":        "50, 1",
		sets(12) + " a = 1":           "50, 1",
		sets(12) + ": a = 1":          "50, 1",
		covers(8) + sets(13):          "71, 9",
		"budget 0\n" + sets(13):       "1, 1",
		sets(13) + "\n$":              "30, 2",
		sets(12) + "\n, a = 1 hops 1": "50, 1",
	})
}

func TestNoQuery(t *testing.T) {
	checkErrors(t, map[string]string{
		"":                         "170, 0",
		"\n \t\r\n# cover hops 1":  "170, 0",
		"budget 1":                 "170, 0",
		"# x\n\nbudget 1024 # y\n": "170, 0",
	})
}

// The text of the document's section on the texts has nine queries: one more than may be.
func TestTheTextOfTheDocument(t *testing.T) {
	lines := strings.Split(`budget 500
reach R1.a to R4.z where dst = 10.0.0.0/8 hops 8
missed R1.a to R4.z where any hops 8
loop R1.a where any hops 33
lost R1.a where any hops 8
isolate red from blue hops 8
path R1.a where any along "R1 .* FW .* R4" hops 8
avoid R1.a to R4.z where any along ".* FW .*" hops 8
cover hops 8
trace R1.a set dst = 10.0.0.1, src = 7 hops 8`, "\n")
	check(t, "P17.1: the document's text", asks(strings.Join(lines, "\n")), "error 71 in line 10")
	for away := 1; away < len(lines); away++ {
		list, budget, errno, line := run.Parse(strings.Join(append(append([]string{}, lines[:away]...), lines[away+1:]...), "\n"))
		if len(list) != 8 || budget != 500 || errno != api.OK || line != 0 {
			t.Errorf("P17.1: the document's text without line %d: %d queries, %d, %d, %d", away+1, len(list), budget, errno, line)
		}
		for at, a := range list {
			kind := at + 1
			if kind >= away {
				kind++
			}
			if a.Kind != kind {
				t.Errorf("P17.1: query %d without line %d has the kind %d", at, away+1, a.Kind)
			}
		}
	}
}
