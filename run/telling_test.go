package run_test

// A second telling of P17.1, along the forms of the lines as the chapter writes them.

import (
	"fmt"
	"slices"
	"strings"
	"testing"

	"reach/api"
	"reach/expr"
	"reach/scan"
	"reach/trail"
)

// forms: what stands behind a line's first word. SETS stands for the sets with their word, which may be missing.
func forms() map[string]string {
	return map[string]string{
		"budget":  "BUDGET",
		"reach":   "PORT to PORT where EXPR hops HOPS",
		"missed":  "PORT to PORT where EXPR hops HOPS",
		"loop":    "PORT where EXPR hops HOPS",
		"lost":    "PORT where EXPR hops HOPS",
		"isolate": "NAME from NAME hops HOPS",
		"path":    "PORT where EXPR along TEXT hops HOPS",
		"avoid":   "PORT to PORT where EXPR along TEXT hops HOPS",
		"cover":   "hops HOPS",
		"trace":   "PORT SETS hops HOPS",
	}
}

// teller tells of one line: its tokens without the end, how many of them are told of already.
type teller struct {
	tokens []api.Token
	at     int
	names  []string
	ask    api.Ask
	budget int
}

// is: whether the next token is of that kind; with a text, just that one.
func (l *teller) is(kind int, text string) bool {
	return l.at < len(l.tokens) && l.tokens[l.at].Kind == kind && (text == "" || l.tokens[l.at].Text == text)
}

// take: the text of the next token, if it is such a one.
func (l *teller) take(kind int, text string) (string, api.Errno) {
	if !l.is(kind, text) {
		return "", api.ErrSyntax
	}
	l.at++
	return l.tokens[l.at-1].Text, api.OK
}

func (l *teller) bounded(least, most int) (int, api.Errno) {
	text, errno := l.take(api.TokNumber, "")
	v, _ := scan.Value(text)
	if errno == api.OK && (v < least || v > most) {
		return 0, api.ErrArg
	}
	return v, errno
}

func (l *teller) sets() api.Errno {
	for l.is(api.TokName, "set") && l.ask.Sets == nil || l.is(api.TokSign, ",") && l.ask.Sets != nil {
		if len(l.ask.Sets) == 12 {
			return api.ErrFull
		}
		l.at++
		name, first := l.take(api.TokName, "")
		if _, second := l.take(api.TokSign, "="); first != api.OK || second != api.OK {
			return api.ErrSyntax
		}
		value, errno := l.bounded(0, api.MaxNumber)
		if errno != api.OK {
			return errno
		}
		l.ask.Sets = append(l.ask.Sets, api.Set{Field: name, Value: value})
	}
	return api.OK
}

// piece tells of one word of a form.
func (l *teller) piece(word string) (errno api.Errno) {
	var text string
	switch word {
	case "PORT", "NAME":
		text, errno = l.take(map[string]int{"PORT": api.TokPort, "NAME": api.TokName}[word], "")
		l.names = append(l.names, text)
	case "EXPR":
		l.ask.Where, l.at, errno = expr.Read(l.tokens, l.at)
	case "TEXT":
		text, errno = l.take(api.TokText, "")
		l.ask.Along, _, _ = scan.Unquote(text)
		if _, bad, _ := trail.Compile(l.ask.Along); errno == api.OK && bad != api.OK {
			return api.ErrPattern
		}
	case "HOPS":
		l.ask.Hops, errno = l.bounded(0, 64)
	case "BUDGET":
		l.budget, errno = l.bounded(1, 1024)
	case "SETS":
		return l.sets()
	default:
		_, errno = l.take(api.TokName, word)
	}
	return errno
}

// line tells of the whole line, which begins with that word.
func (l *teller) line(word string) api.Errno {
	for _, w := range strings.Fields(forms()[word]) {
		if errno := l.piece(w); errno != api.OK {
			return errno
		}
	}
	if l.at < len(l.tokens) {
		return api.ErrSyntax
	}
	l.names = append(l.names, "", "")
	l.ask.From, l.ask.To = l.names[0], l.names[1]
	return api.OK
}

// told: what Parse is to answer, as asks writes it.
func told(query string) string {
	tokens, errno, line, _ := scan.Scan(query)
	if errno != api.OK {
		return fmt.Sprint("error ", errno, " in line ", line)
	}
	text, queries, first := "", 0, true
	budget := 1024
	for len(tokens) > 0 {
		end := slices.IndexFunc(tokens, func(t api.Token) bool { return t.Kind == api.TokEnd })
		word := tokens[0].Text
		kind := slices.Index(strings.Fields("budget reach missed loop lost isolate path avoid cover trace"), word)
		l := teller{tokens: tokens[1:end], budget: budget}
		switch {
		case tokens[0].Kind != api.TokName || kind < 0:
			errno = api.ErrKeyword
		case kind == 0 && !first:
			errno = api.ErrOrder
		case kind > 0 && queries == 8:
			errno = api.ErrCount
		default:
			errno = l.line(word)
		}
		if errno != api.OK {
			return fmt.Sprint("error ", errno, " in line ", tokens[0].Line)
		}
		if kind > 0 {
			a := l.ask
			queries++
			text += fmt.Sprintf("; %d %q %q %v %q %v %d", kind, a.From, a.To, a.Where, a.Along, a.Sets, a.Hops)
		}
		tokens, first, budget = tokens[end+1:], false, l.budget
	}
	if queries == 0 {
		return "error 170 in line 0"
	}
	return fmt.Sprint("budget ", budget) + text
}

// pieces: what lines may have, and what they may not, but for line ends.
func pieces() []string {
	return strings.Fields(`budget reach missed loop lost isolate path avoid cover trace to where from along hops set
		any none ! & | ( ) = != < .. / , : -> A.a B.b R1 red blue dst x any none dst = 1 %01x 0 1 7 64 65 1024 1025 0x40 0b1 10.0.0.1 4294967295
		".*" "A" "(" "" "B.b|!A+" "$" "\n"`)
}

// mutilated: a text with up to three pieces taken away, put in, put in the place of another or doubled; of some texts with a line or more put in, too.
func (s *source) mutilated(text string) string {
	if s.below(6) == 0 {
		lines := strings.SplitAfter(text, "\n")
		more := s.oneOf(covers(9), covers(s.below(9)), "budget 3\n", "budget\n")
		text = strings.Join(slices.Insert(lines, s.below(len(lines)), more), "")
	}
	words := strings.Split(strings.ReplaceAll(text, "\n", " \n "), " ")
	all := append(pieces(), "\n", "\n")
	for range s.below(4) {
		at, piece := s.below(len(words)), s.oneOf(all...)
		switch s.below(4) {
		case 0:
			words = slices.Delete(words, at, at+1)
		case 1:
			words = slices.Insert(words, at, piece)
		case 2:
			words[at] = piece
		case 3:
			words = slices.Insert(words, at, words[s.below(len(words))])
		}
		if len(words) == 0 {
			words = []string{""}
		}
	}
	return strings.Join(words, " ")
}

func TestTextsByASecondTelling(t *testing.T) {
	s := source(21)
	seen := map[string]int{}
	count := func(query string) {
		want := told(query)
		check(t, fmt.Sprintf("P17.1: %q", query), asks(query), want)
		what, _, _ := strings.Cut(want, " in")
		what, _, _ = strings.Cut(what, ";")
		seen[what]++
	}
	for range 200 {
		c := s.network(t)
		for range 60 {
			count(s.mutilated(s.queries(c)))
		}
	}
	for range 3000 {
		text := ""
		for range s.below(12) {
			text += s.oneOf(append(pieces(), "\n")...) + s.oneOf(" ", "  ", "\t", " # \xff any\n")
		}
		count(text)
	}
	for _, errno := range []api.Errno{1, 50, 60, 61, 71, 140, 170} {
		if seen[fmt.Sprint("error ", errno)] < 20 {
			t.Errorf("the trial shows less than it should: %v", seen)
		}
	}
	if seen["budget 1024"] < 1000 {
		t.Errorf("the trial shows less than it should: %v", seen)
	}
}

// Each line cut behind each of its tokens, and with each of the pieces in the place of each token, ahead of it and behind the last one.
func TestEachTokenOfEachForm(t *testing.T) {
	for _, line := range []string{
		"budget 500",
		"reach R1.a to R4.z where dst = 10.0.0.0 / 8 hops 8",
		"missed R1.a to R4.z where any hops 8",
		"loop R1.a where ! any hops 33",
		"lost R1.a where a < 1 | ( none ) hops 8",
		"isolate red from blue hops 8",
		`path R1.a where any along "R1.*FW.*R4" hops 8`,
		`avoid R1.a to R4.z where any along ".*FW.*" hops 8`,
		"cover hops 8",
		"trace R1.a hops 8",
		"trace R1.a set dst = 10.0.0.1 , src = 7 hops 8",
	} {
		words := strings.Fields(line)
		for at := range len(words) + 1 {
			cut := strings.Join(words[:at], " ")
			for _, query := range []string{cut, "cover hops 1\n" + cut, cut + "\ncover hops 1"} {
				check(t, fmt.Sprintf("P17.1: %q", query), asks(query), told(query))
			}
			for _, piece := range pieces() {
				behind := strings.Join(words[at:], " ")
				query := strings.Join([]string{cut, piece, behind}, " ")
				check(t, fmt.Sprintf("P17.1: %q", query), asks(query), told(query))
				if at < len(words) {
					query = strings.Join(append(append(slices.Clone(words[:at]), piece), words[at+1:]...), " ")
					check(t, fmt.Sprintf("P17.1: %q", query), asks(query), told(query))
				}
			}
		}
	}
}
