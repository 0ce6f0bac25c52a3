package gate

import (
	"errors"
	"slices"
	"strings"

	"reach/api"
	"reach/run"
	"reach/scan"
)

const (
	wordNo     = "no"
	wordSome   = "some"
	wordBudget = "budget"
)

// demand is a question whose outcome is to stay as it is.
type demand struct {
	query string
	found bool // what the reply is to say
}

func readDemand(line string) demand {
	tokens, errno, _, _ := scan.Scan(line)
	refuse(api.WhyParse, errno, ofQuery)
	if !isDemand(tokens) {
		panic(fault(api.WhyParse, api.ErrDemand, ofQuery))
	}
	query := behind(line, tokens[0])
	_, _, errno, _ = run.Parse(query)
	refuse(api.WhyParse, errno, ofQuery)
	return demand{strings.Clone(query), isName(tokens[0], wordSome)}
}

// isDemand: whether these are the tokens of one line that begins as a demand does. Behind the first token there is always one more: the line's end.
func isDemand(tokens []api.Token) bool {
	if len(tokens) == 0 || !isName(tokens[0], wordNo) && !isName(tokens[0], wordSome) || isName(tokens[1], wordBudget) {
		return false
	}
	end := slices.IndexFunc(tokens, func(t api.Token) bool { return t.Kind == api.TokEnd })
	return end == len(tokens)-1
}

func isName(t api.Token, name string) bool { return t.Kind == api.TokName && t.Text == name }

// behind is what follows a text's first token. Ahead of that its line has nothing but blanks, which are bytes: its column counts them.
func behind(text string, first api.Token) string {
	for range first.Line - 1 {
		_, text, _ = strings.Cut(text, "\n")
	}
	return text[first.Col-1+len(first.Text):]
}

// hold gives up where the demand of that number does not hold for a text that may be in force.
func (d demand) hold(text string, number int) {
	replies, err := run.Do(text, d.query)
	var f *api.Fault
	switch {
	case errors.Is(err, api.WhyBudget):
		panic(faultOf(number, api.WhyBudget, api.ErrBudget, ofNeither))
	case errors.As(err, &f): // Both texts are read and the network is well-formed: the query asks for what this one does not have.
		panic(faultOf(number, api.WhyIll, f.Code, ofQuery))
	}
	for _, reply := range replies {
		if reply.Found != d.found {
			f = faultOf(number, api.WhyBroken, api.ErrBroken, ofNeither)
			f.Reply = reply
			panic(f)
		}
	}
}
