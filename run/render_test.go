package run_test

// P17.5: what Render writes, for every Result.

import (
	"fmt"
	"math"
	"strings"
	"testing"

	"reach/api"
	"reach/run"
)

func TestRenderRefusals(t *testing.T) {
	for _, e := range []struct {
		r    api.Result
		want string
	}{
		{api.Result{Kind: api.ResultParse, Code: 60, Text: 1, Line: 3}, "parse error 60 in the configuration, line 3\n"},
		{api.Result{Kind: api.ResultParse, Code: 60, Text: 2, Line: 3}, "parse error 60 in the query, line 3\n"},
		{api.Result{Kind: api.ResultParse, Code: 2, Text: 1}, "parse error 2 in the configuration, line 0\n"},
		{api.Result{Kind: api.ResultParse, Code: 170, Text: 0}, "parse error 170 in the query, line 0\n"},
		{api.Result{Kind: api.ResultParse, Code: -7, Text: -1, Line: math.MinInt}, "parse error -7 in the query, line -9223372036854775808\n"},
		{api.Result{Kind: api.ResultParse, Code: 70000, Text: 3, Line: 70000}, "parse error 70000 in the query, line 70000\n"},
		{api.Result{Kind: api.ResultIll, Code: 71, Text: 1}, "ill-formed 71 in the configuration\n"},
		{api.Result{Kind: api.ResultIll, Code: 71, Text: 1, Line: 5}, "ill-formed 71 in the configuration\n"},
		{api.Result{Kind: api.ResultIll, Code: 171, Text: 2, Line: 4}, "ill-formed 171 in query 4\n"},
		{api.Result{Kind: api.ResultIll}, "ill-formed 0 in query 0\n"},
		{api.Result{Kind: api.ResultIll, Code: math.MaxInt, Text: 7, Line: -1}, "ill-formed 9223372036854775807 in query -1\n"},
		{api.Result{Kind: api.ResultBudget, Code: api.ErrBudget}, "budget exceeded\n"},
		{api.Result{Kind: api.ResultBudget, Text: 1, Line: 8}, "budget exceeded\n"},
		{api.Result{Kind: api.ResultReplies}, ""},
		{api.Result{Kind: api.ResultReplies, Code: 60, Text: 1, Line: 3, Replies: []api.Reply{}}, ""},
		{api.Result{}, ""},
		{api.Result{Kind: 5, Code: 3, Text: 1, Line: 1}, ""},
		{api.Result{Kind: -1}, ""},
		{api.Result{Kind: math.MaxInt}, ""},
	} {
		check(t, fmt.Sprintf("P17.5: %+v", e.r), run.Render(e.r), e.want)
		// What the kind has no room for is not told.
		e.r.Replies = append(e.r.Replies, api.Reply{Kind: api.AskCover, Found: true})
		if e.r.Kind == api.ResultReplies {
			e.want = "cover: found\n"
		}
		check(t, fmt.Sprintf("P17.5: %+v", e.r), run.Render(e.r), e.want)
	}
}

func TestRenderEachKindOfReply(t *testing.T) {
	words := map[int]string{1: "reach", 2: "missed", 3: "loop", 4: "lost", 5: "isolate", 6: "path", 7: "avoid", 8: "cover", 9: "trace"}
	for _, kind := range []int{1, 2, 3, 4, 5, 6, 7, 8, 9, 0, -1, 10, 11, 77, math.MaxInt, math.MinInt} {
		word, ok := words[kind]
		if !ok {
			word = "reply"
		}
		for found, outcome := range map[bool]string{true: ": found\n", false: ": none\n"} {
			r := api.Result{Kind: api.ResultReplies, Replies: []api.Reply{{Kind: kind, Found: found}}}
			check(t, fmt.Sprintf("P17.5: %+v", r), run.Render(r), word+outcome)
		}
	}
}

// Each part alone, and all of them: what is empty is left out, what is not is written in its place.
func TestRenderEachPart(t *testing.T) {
	full := api.Reply{Kind: api.AskTrace, Found: true, Space: "S", Witness: "W", Ports: []string{"A.a", "A.b"}, Entries: []string{"A rule 1", "B own 0.0.0.0/0"}, Final: "F", Lines: []string{"x y", "", "z"}, More: true}
	lines := []string{"  space S\n", "  witness W\n", "  path A.a A.b\n", "  by A rule 1, B own 0.0.0.0/0\n", "  final F\n", "  x y\n  \n  z\n", "  more\n"}
	for set := range 1 << len(lines) {
		r, want := full, "trace: found\n"
		for at, line := range lines {
			if set>>at&1 == 1 {
				want += line
				continue
			}
			switch at {
			case 0:
				r.Space = ""
			case 1:
				r.Witness = ""
			case 2:
				r.Ports = nil
			case 3:
				r.Entries = []string{}
			case 4:
				r.Final = ""
			case 5:
				r.Lines = nil
			case 6:
				r.More = false
			}
		}
		check(t, fmt.Sprintf("P17.5: %+v", r), run.Render(api.Result{Kind: api.ResultReplies, Replies: []api.Reply{r}}), want)
	}
	check(t, "P17.5: all, twice", run.Render(api.Result{Kind: api.ResultReplies, Replies: []api.Reply{full, full}}), strings.Repeat("trace: found\n"+strings.Join(lines, ""), 2))
}

// Whatever its texts hold: they are written as they are. A list with an element is not empty, whatever the element says.
func TestRenderAnyTexts(t *testing.T) {
	r := api.Reply{Space: "\n", Witness: " ", Ports: []string{""}, Entries: []string{"", ""}, Final: "\xff\x00", Lines: []string{"", "a\nb", "\""}}
	check(t, "P17.5", run.Render(api.Result{Kind: api.ResultReplies, Replies: []api.Reply{r}}), "reply: none\n  space \n\n  witness  \n  path \n  by , \n  final \xff\x00\n  \n  a\nb\n  \"\n")
	long := strings.Repeat("x", 1<<20)
	r = api.Reply{Kind: api.AskReach, Space: long, Ports: make([]string, 5000), Lines: make([]string, 5000)}
	check(t, "P17.5", run.Render(api.Result{Kind: api.ResultReplies, Replies: []api.Reply{r}}), "reach: none\n  space "+long+"\n  path "+strings.Repeat(" ", 4999)+"\n"+strings.Repeat("  \n", 5000))
}
