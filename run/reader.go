package run

import (
	"strings"

	"reach/api"
	"reach/expr"
	"reach/scan"
	"reach/trail"
)

// reader goes over the tokens of a query text. Where one cannot stand it gives up, and so it never comes past the end of a line that breaks off: a token is always there to look at.
type reader struct {
	tokens []api.Token
	now    int     // the token that is looked at
	ask    api.Ask // what has been read of the line
	asks   []api.Ask
	budget int
}

// read reads a whole text.
func read(text string) ([]api.Ask, int) {
	tokens, errno, line, _ := scan.Scan(text)
	refuse(api.WhyParse, errno, ofQuery, line)
	r := reader{tokens: tokens, budget: api.MaxBudget}
	table := rows()
	for r.now < len(r.tokens) {
		r.line(table)
	}
	if len(r.asks) == 0 {
		panic(fault(api.WhyParse, api.ErrQuery, ofQuery, 0))
	}
	return r.asks, r.budget
}

func (r *reader) line(table []row) {
	kind := r.keyword()
	r.ask = api.Ask{Kind: kind}
	for _, read := range table[kind].parts {
		read(r)
	}
	r.text(api.TokEnd)
	if isQuery(kind) {
		r.asks = append(r.asks, r.ask)
	}
}

// keyword passes a line's first word, if such a line may stand here, and tells its Kind.
func (r *reader) keyword() int {
	for kind, word := range words {
		switch {
		case !r.isAt(api.TokName, word):
			continue
		case kind == kindBudget && r.now > 0:
			panic(r.wrong(api.ErrOrder))
		case isQuery(kind) && len(r.asks) == api.MaxQueries:
			panic(r.wrong(api.ErrCount))
		}
		r.now++
		return kind
	}
	panic(r.wrong(api.ErrKeyword))
}

// wrong is the refusal of the token that is looked at.
func (r *reader) wrong(errno api.Errno) *api.Fault {
	return fault(api.WhyParse, errno, ofQuery, r.tokens[r.now].Line)
}

func (r *reader) isAt(kind int, text string) bool {
	t := r.tokens[r.now]
	return t.Kind == kind && t.Text == text
}

// pass passes a token that must stand here.
func (r *reader) pass(kind int, text string) {
	if !r.isAt(kind, text) {
		panic(r.wrong(api.ErrSyntax))
	}
	r.now++
}

// text passes a token of that kind and tells its Text: a copy, since a piece would keep the whole text that was cut.
func (r *reader) text(kind int) string {
	t := r.tokens[r.now]
	if t.Kind != kind {
		panic(r.wrong(api.ErrSyntax))
	}
	r.now++
	return strings.Clone(t.Text)
}

func (r *reader) number() int {
	v, _ := scan.Value(r.text(api.TokNumber))
	return v
}

// within passes a number that must be in these bounds.
func (r *reader) within(least, most int) int {
	v := r.number()
	if v < least || v > most {
		r.now--
		panic(r.wrong(api.ErrArg))
	}
	return v
}

// What stands behind a line's first word, part by part.

func (r *reader) amount() { r.budget = r.within(1, api.MaxBudget) }

func (r *reader) from() { r.ask.From = r.text(api.TokPort) }

func (r *reader) to() {
	r.pass(api.TokName, wordTo)
	r.ask.To = r.text(api.TokPort)
}

func (r *reader) slices() {
	r.ask.From = r.text(api.TokName)
	r.pass(api.TokName, wordFrom)
	r.ask.To = r.text(api.TokName)
}

// where reads an expression, as far as it goes.
func (r *reader) where() {
	r.pass(api.TokName, wordWhere)
	nodes, at, errno := expr.Read(r.tokens, r.now)
	r.now = at
	if errno != api.OK {
		panic(r.wrong(errno))
	}
	r.ask.Where = nodes
}

func (r *reader) along() {
	r.pass(api.TokName, wordAlong)
	r.ask.Along, _, _ = scan.Unquote(r.text(api.TokText))
	if _, errno, _ := trail.Compile(r.ask.Along); errno != api.OK {
		r.now--
		panic(r.wrong(api.ErrPattern))
	}
}

func (r *reader) hops() {
	r.pass(api.TokName, wordHops)
	r.ask.Hops = r.within(0, api.MaxHops)
}

// sets reads the fields that are written, where there are any.
func (r *reader) sets() {
	if !r.isAt(api.TokName, wordSet) {
		return
	}
	for more := true; more; more = r.isAt(api.TokSign, signComma) {
		if len(r.ask.Sets) == api.MaxFields {
			panic(r.wrong(api.ErrFull))
		}
		r.now++
		r.ask.Sets = append(r.ask.Sets, r.set())
	}
}

func (r *reader) set() api.Set {
	name := r.text(api.TokName)
	r.pass(api.TokSign, signEqual)
	return api.Set{Field: name, Value: r.number()}
}
