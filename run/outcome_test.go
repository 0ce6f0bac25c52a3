package run_test

// P17.2, P17.4: which outcome it is, the first that applies, and Do beside Run.

import (
	"errors"
	"fmt"
	"slices"
	"strings"
	"testing"

	"reach/api"
	"reach/run"
)

// outcome: all that Run tells but for the replies, in one line; Do must tell the same.
func outcome(t *testing.T, config, query string) string {
	t.Helper()
	r := run.Run(config, query)
	checkDo(t, config, query, r)
	if r.Kind == api.ResultReplies {
		if r.Code != api.OK || r.Text != 0 || r.Line != 0 {
			t.Errorf("P17.2: %.300q: replies beside %d, %d, %d", query, r.Code, r.Text, r.Line)
		}
		return fmt.Sprint(len(r.Replies), " replies")
	}
	if len(r.Replies) > 0 {
		t.Errorf("P17.2: %.300q: a refusal beside %v", query, r.Replies)
	}
	kind := map[int]string{api.ResultParse: "parse", api.ResultIll: "ill", api.ResultBudget: "budget"}[r.Kind]
	return fmt.Sprint(kind, " ", int(r.Code), " ", r.Text, " ", r.Line)
}

func checkDo(t *testing.T, config, query string, r api.Result) {
	t.Helper()
	list, err := run.Do(config, query)
	if r.Kind == api.ResultReplies {
		if err != nil || fmt.Sprint(list) != fmt.Sprint(r.Replies) {
			t.Errorf("P17.4: %.300q: Do answers %v, %v, Run %v", query, list, err, r.Replies)
		}
		return
	}
	f, ok := err.(*api.Fault)
	var found *api.Fault
	if list != nil || !ok || f == nil || !errors.As(err, &found) || found != f {
		t.Fatalf("P17.4: %.300q: %v, %T", query, list, err)
	}
	why := map[int]error{api.ResultParse: api.WhyParse, api.ResultIll: api.WhyIll, api.ResultBudget: api.WhyBudget}[r.Kind]
	for _, other := range []error{api.WhyParse, api.WhyIll, api.WhyBudget, api.WhyBroken, api.WhyState} {
		if errors.Is(err, other) != (other == why) {
			t.Errorf("P17.4: %.300q: kind %d: %v is found in %v: %v", query, r.Kind, other, err, errors.Is(err, other))
		}
	}
	want := api.Fault{Why: why, Code: r.Code, Text: r.Text, Line: r.Line, Demand: -1}
	if got := *f; fmt.Sprint(got) != fmt.Sprint(want) || err.Error() != why.Error() {
		t.Errorf("P17.4: %.300q: %+v, want %+v", query, got, want)
	}
}

// wideText: a network in whose header a range has up to 62 cubes; its rule matches that expression.
func wideText(match string) string {
	return "header a:32 b:32 c:8\nbox A\nin a\nout c\nrule 1 match " + match + " to c\nslice wide A.a where " + most + "\nslice over A.a where " + tooMuch + "\nslice empty where none\n"
}

const (
	half    = "a = 1..4294967294 | b = 1..4294967294" // 124 cubes
	most    = half + " | c = 1..6"                    // 128
	tooMuch = half + " | c = 1..13"                   // 129
)

// brings: a text and what it brings about, if nothing ahead of it does.
type brings struct{ text, want string }

// Of all texts with all others: the first that applies.
func TestTheFirstThatApplies(t *testing.T) {
	twice := labText + "slice red A.a where any\n"
	configs := []brings{
		{"\nbogus", "parse 60 1 2"},
		{strings.Repeat(" ", api.MaxText+1), "parse 2 1 0"},
		{labText + "$", "parse 30 1 20"},
		{labText + "in a", "parse 61 1 20"},
		{"header dst:4\nbox A\nrule 5 match dst < drop", "parse 50 1 3"},
		{"", "ill 70 1 0"},
		{"header dst:4\nrouting tag", "ill 73 1 0"},
		{twice, "ill 72 1 0"},
		{strings.Replace(labText, "rule 10 ", "rule 5 ", 1), "ill 76 1 0"},
		{strings.Replace(labText, "dst = 15", "dst = 16", 1), "ill 77 1 0"},
		{wideText("a != 1 & b != 1"), "budget 3 0 0"}, // 32 * 32 cubes in the table
		{labText, ""},
	}
	queries := []brings{
		{"cover hops 1\n\nbogus", "parse 60 2 3"},
		{strings.Repeat(" ", api.MaxText+1), "parse 2 2 0"},
		{"", "parse 170 2 0"},
		{"loop A.a where any hops 65", "parse 1 2 1"},
		{"cover hops 1\nloop Z.a where any hops 1", "ill 171 2 2"},
		{"isolate empty from z hops 1", "ill 172 2 1"},
		{"budget 1\ncover hops 1\nloop A.a where any hops 1", "budget 3 0 0"},
		{"cover hops 1", "1 replies"},
	}
	for at, c := range configs {
		for n, q := range queries {
			want := q.want
			read := strings.HasPrefix(q.want, "parse")
			switch {
			case strings.HasPrefix(c.want, "parse"), strings.HasPrefix(c.want, "ill") && !read, c.want != "" && !read && !strings.HasPrefix(q.want, "ill"):
				want = c.want
			}
			check(t, fmt.Sprint("P17.2: configuration ", at, ", query ", n), outcome(t, c.text, q.text), want)
		}
	}
}

// What a query names is looked at query by query, and in a query from its ports to its expression or sets.
func TestWhatAQueryNames(t *testing.T) {
	for _, q := range []brings{
		{"reach A.a to B.b where any hops 1", "1 replies"},
		{"reach A.z to B.b where any hops 1", "ill 171 2 1"},
		{"reach A.a to B.z where any hops 1", "ill 171 2 1"},
		{"reach Z.a to B.z where zz = 1 hops 1", "ill 171 2 1"},
		{"reach A.a to B.z where zz = 1 hops 1", "ill 171 2 1"},
		{"reach A.a to B.b where zz = 1 hops 1", "ill 77 2 1"},
		{"missed A.a to B.b where any & dst = 16 hops 1", "ill 77 2 1"},
		{"missed B.z to A.a where any hops 1", "ill 171 2 1"},
		{"loop A.d where dst = 0/5 hops 1", "ill 77 2 1"},
		{"loop a.A where none hops 1", "ill 171 2 1"},
		{"lost A.a where dst = 9..3 hops 1", "ill 77 2 1"},
		{"lost B.b where dst = %01x hops 1", "ill 77 2 1"},
		{"lost B.c where dst = %01x hops 1", "ill 171 2 1"},
		{"isolate red from blue hops 1", "1 replies"},
		{"isolate red from red hops 1", "1 replies"},
		{"isolate Red from blue hops 1", "ill 172 2 1"},
		{"isolate red from A hops 1", "ill 172 2 1"},
		{"isolate red from where hops 1", "ill 172 2 1"},
		{`path A.a where tag = 4 along "." hops 1`, "ill 77 2 1"},
		{`path A.A where tag = 4 along "." hops 1`, "ill 171 2 1"},
		{`path A.a where any along "Z.z" hops 1`, "1 replies"}, // a pattern may name what there is not
		{`avoid A.a to Z.z where tag = 4 along "." hops 1`, "ill 171 2 1"},
		{`avoid A.a to B.b where tag = 4 along "." hops 1`, "ill 77 2 1"},
		{"trace A.a hops 1", "1 replies"},
		{"trace A.z set zz = 1 hops 1", "ill 171 2 1"},
		{"trace A.a set zz = 1 hops 1", "ill 79 2 1"},
		{"trace A.a set dst = 16 hops 1", "ill 79 2 1"},
		{"trace A.a set dst = 15, tag = 4 hops 1", "ill 79 2 1"},
		{"trace A.a set dst = 1, dst = 1 hops 1", "ill 79 2 1"},
		{"trace A.a set dst = 15, tag = 3 hops 1", "1 replies"},
	} {
		check(t, "P17.2: "+q.text, outcome(t, labText, q.text), q.want)
		// Behind a query that takes too much, and ahead of others that are wrong.
		want := strings.Replace(q.want, "2 1", "2 3", 1)
		if want == "1 replies" {
			want = "ill 172 2 4"
		}
		query := "budget 1\nlost A.a where any hops 1\n\ncover hops 1\n" + q.text + "\nisolate z from z hops 1\nloop Z.a where zz = 1 hops 1\n"
		check(t, "P17.2: "+query, outcome(t, labText, query), want)
	}
	// Of a network without ports and slices nothing is there.
	for query, want := range map[string]string{
		"cover hops 64": "1 replies", "trace A.a hops 0": "ill 171 2 1", "isolate red from red hops 0": "ill 172 2 1",
	} {
		check(t, "P17.2: "+query, outcome(t, "header a:1", query), want)
	}
}

// Every kind of query may take too much, but for a trace: then there is no reply at all, whatever stands ahead.
func TestTheBudgetOfEachQuery(t *testing.T) {
	open := strings.Replace(labText, "link B.e -> A.a\n", "", 1) // A.a is a door then
	for _, q := range []struct {
		query string
		size  int // the least budget that is enough
	}{
		{"reach A.a to B.b where any hops 4", 23},
		{"missed A.a to B.b where any hops 4", 23},
		{"loop A.a where any hops 6", 0},
		{"lost A.a where any hops 2", 0},
		{"isolate red from blue hops 4", 0},
		{`path A.a where any along "A .* B.e .*" hops 2`, 0},
		{`avoid A.a to A.d where any along ".* B .*" hops 1`, 0},
		{"cover hops 3", 0},
	} {
		config := labText
		if strings.HasPrefix(q.query, "cover") {
			config = open
		}
		fits := 0
		for budget := 1; budget < 60 && fits == 0; budget++ {
			text := fmt.Sprintf("budget %d\ntrace A.a hops 8\n%s\ntrace A.a hops 1", budget, q.query)
			if got := outcome(t, config, text); got == "3 replies" {
				fits = budget
			} else {
				check(t, "P17.2: "+text, got, "budget 3 0 0")
			}
		}
		if fits < 2 || q.size > 0 && fits != q.size {
			t.Errorf("P17.2: %s: a budget of %d is enough", q.query, fits)
		}
		check(t, "P17.2: "+q.query, outcome(t, config, fmt.Sprintf("budget %d\n%s\n%[2]s", fits, q.query)), "2 replies")
	}
	check(t, "P17.2: trace", outcome(t, labText, "budget 1\n"+strings.Repeat("trace A.a set dst = 8 hops 64\n", 8)), "8 replies")
}

// The space of a Where or of a slice that is asked for may be too great; that of another slice does not matter.
func TestTheBudgetOfExpressions(t *testing.T) {
	config := wideText("c = 0")
	for _, form := range []string{"reach A.a to A.c where %s hops 1", "missed A.a to A.c where %s hops 0", "loop A.c where %s hops 0", "lost A.c where %s hops 0", `path A.a where %s along "." hops 0`, `avoid A.a to A.c where %s along "." hops 0`} {
		for where, want := range map[string]string{half: "1 replies", most: "1 replies", tooMuch: "budget 3 0 0"} {
			query := fmt.Sprintf(form, where)
			check(t, "P17.2: "+query, outcome(t, config, query), want)
		}
		// What is too great is so ahead of the budget's bound, and behind all that is ill-formed.
		check(t, "P17.2: "+form, outcome(t, config, fmt.Sprintf(form+"\ntrace A.z hops 1", tooMuch)), "ill 171 2 2")
	}
	for query, want := range map[string]string{
		"isolate empty from wide hops 1": "1 replies",
		"isolate wide from empty hops 1": "1 replies",
		"isolate wide from wide hops 0":  "budget 3 0 0", // 128 * 128 terms on the way
		"isolate over from empty hops 0": "budget 3 0 0",
		"isolate empty from over hops 0": "budget 3 0 0",
		"isolate over from over hops 0":  "budget 3 0 0",
		"isolate over from z hops 0":     "ill 172 2 1",
		"cover hops 0":                   "1 replies",
		"trace A.a hops 0":               "1 replies",
	} {
		check(t, "P17.2: "+query, outcome(t, config, query), want)
	}
}

// lower.Lower is asked whatever the queries are.
func TestTheBudgetOfTheTables(t *testing.T) {
	queries := []string{"cover hops 0", "trace A.a hops 0", "isolate empty from empty hops 0", "reach A.a to A.a where none hops 0"}
	for match, want := range map[string]string{
		"a != 1":                       "1 replies",
		"a != 1 | b != 1":              "1 replies",
		"a != 1 & c = 1..2":            "1 replies", // 64 cubes
		"a != 1 & c = 1..3":            "1 replies",
		"a != 1 & c = 1..4":            "budget 3 0 0", // 96
		"a = 1..4294967294 & c = 1..2": "budget 3 0 0",
		most:                           "budget 3 0 0",
		tooMuch:                        "budget 3 0 0",
	} {
		for _, query := range queries {
			check(t, "P17.2: "+match+"; "+query, outcome(t, wideText(match), query), want)
		}
		check(t, "P17.2: "+match, outcome(t, wideText(match), "trace A.z hops 0"), "ill 171 2 1")
	}
}

// P0.2: mutilated texts of both kinds get just one of the four outcomes.
func TestOneOutcome(t *testing.T) {
	s := source(31)
	seen := map[string]int{}
	for range 1500 {
		c := s.network(t)
		config, query := printed(t, c), s.queries(c)
		switch s.below(6) {
		case 0:
			config = s.torn(config)
		case 1:
			query = s.mutilated(query)
		case 2:
			query = s.queries(s.network(t))
		case 3:
			query = "budget 4\n" + strings.TrimPrefix(query, "budget")
		}
		got := outcome(t, config, query)
		kind, _, _ := strings.Cut(got, " ")
		seen[kind]++
		if !slices.Contains([]string{"parse", "ill", "budget"}, kind) && !strings.HasSuffix(got, " replies") {
			t.Fatalf("P0.2: %s of %q and %q", got, config, query)
		}
		if kind == "budget" && got != "budget 3 0 0" {
			t.Fatalf("P17.2: %s of %q and %q", got, config, query)
		}
	}
	if seen["parse"] < 200 || seen["ill"] < 100 || seen["budget"] < 50 || seen["1"] < 30 {
		t.Errorf("the trial shows less than it should: %v", seen)
	}
}

// torn: a network's text with a word taken away, doubled or put in the place of another.
func (s *source) torn(text string) string {
	words := strings.Split(strings.ReplaceAll(text, "\n", " \n "), " ")
	for range 1 + s.below(2) {
		at, other := s.below(len(words)), words[s.below(len(words))]
		switch s.below(3) {
		case 0:
			words[at] = ""
		case 1:
			words[at] = other
		case 2:
			words[at] += " " + other
		}
	}
	return strings.Join(words, " ")
}

// W1: texts of any bytes and any length.
func TestAnyBytes(t *testing.T) {
	s := source(32)
	for _, text := range []string{"\x00", "\xff\xfe", "\n", "\"", "\r\r", strings.Repeat("a", 1<<20), strings.Repeat("cover hops 1\n", 1<<12), strings.Repeat("(", api.MaxText), "loop A.a where " + strings.Repeat("(", 16000), "\"" + strings.Repeat("\\", 16000)} {
		outcome(t, text, text)
		outcome(t, labText, text)
		outcome(t, text, "cover hops 1")
		run.Parse(text)
	}
	for range 2000 {
		whole := []byte(s.oneOf(labText, "budget 9\nreach A.a to B.b where dst < 4 hops 4\n", `path A.a where any along "A .* B" hops 2`, "trace A.a set tag = 1, dst = 8 hops 8"))
		for range s.below(4) {
			at := s.below(len(whole))
			switch s.below(3) {
			case 0:
				whole[at] = byte(s.below(256))
			case 1:
				whole = whole[:at+1]
			case 2:
				whole = append(whole[:at:at], whole[s.below(len(whole)):]...)
			}
			if len(whole) == 0 {
				break
			}
		}
		outcome(t, string(whole), "cover hops 1")
		outcome(t, labText, string(whole))
	}
}
