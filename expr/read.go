package expr

import (
	"strings"

	"reach/api"
	"reach/scan"
)

const (
	wordAny  = "any"
	wordNone = "none"

	signNot   = "!"
	signAnd   = "&"
	signOr    = "|"
	signOpen  = "("
	signClose = ")"
	signSlash = "/"
	signSpan  = ".."
	percent   = "%"
)

// The signs of the tests, by their Op.
var opSigns = [...]string{
	api.OpIs:    "=",
	api.OpNot:   "!=",
	api.OpBelow: "<",
	api.OpMost:  "<=",
	api.OpAbove: ">",
	api.OpLeast: ">=",
}

// reader goes down the grammar. It passes a token only if that can stand where it is, and so it stops at the one where an error is.
type reader struct {
	tokens []api.Token
	now    int // the token that is looked at
	open   int // brackets and denials
	made   int // tokens that have made a node: a sign's node itself comes later
	nodes  []api.Node
}

func (r *reader) expression() api.Errno { return r.joined(signOr, api.NodeOr, r.chain) }

func (r *reader) chain() api.Errno { return r.joined(signAnd, api.NodeAnd, r.factor) }

// joined reads parts with a sign between each two, grouped to the left.
func (r *reader) joined(sign string, kind int, part func() api.Errno) api.Errno {
	errno := part()
	for errno == api.OK && r.isAt(sign) {
		errno = r.making(kind, part)
	}
	return errno
}

func (r *reader) factor() api.Errno {
	switch {
	case r.isAt(signNot):
		return r.opened(r.denied)
	case r.isAt(signOpen):
		return r.opened(r.enclosed)
	case r.isOf(api.TokName):
		return r.leaf()
	}
	return api.ErrSyntax
}

// opened reads a part that is open up to its end.
func (r *reader) opened(part func() api.Errno) api.Errno {
	if r.open == api.MaxDepth {
		return api.ErrDeep
	}
	r.open++
	errno := part()
	r.open--
	return errno
}

func (r *reader) denied() api.Errno { return r.making(api.NodeNot, r.factor) }

func (r *reader) enclosed() api.Errno {
	r.now++
	if errno := r.expression(); errno != api.OK {
		return errno
	}
	if !r.isAt(signClose) {
		return api.ErrSyntax
	}
	r.now++
	return api.OK
}

// making passes a sign, reads what stands behind it, and only then adds the sign's node.
func (r *reader) making(kind int, behind func() api.Errno) api.Errno {
	if errno := r.count(); errno != api.OK {
		return errno
	}
	if errno := behind(); errno != api.OK {
		return errno
	}
	r.add(api.Node{Kind: kind})
	return api.OK
}

// count passes a token that makes a node.
func (r *reader) count() api.Errno {
	if r.made == api.MaxNodes {
		return api.ErrNodes
	}
	r.made++
	r.now++
	return api.OK
}

func (r *reader) add(n api.Node) { r.nodes = append(r.nodes, n) }

// leaf reads what begins with a name.
func (r *reader) leaf() api.Errno {
	name := r.token().Text
	if errno := r.count(); errno != api.OK {
		return errno
	}
	switch name {
	case wordAny:
		r.add(api.Node{Kind: api.NodeAny})
	case wordNone:
		r.add(api.Node{Kind: api.NodeNone})
	default:
		return r.test(name)
	}
	return api.OK
}

// test reads what stands behind the name of a test.
func (r *reader) test(name string) api.Errno {
	t := api.Test{Field: strings.Clone(name), Op: r.op()}
	if t.Op == 0 {
		return api.ErrSyntax
	}
	r.now++
	if !r.value(&t) {
		return api.ErrSyntax
	}
	r.add(api.Node{Kind: api.NodeTest, Test: t})
	return api.OK
}

// op is the Op of the sign that stands here, 0 if there is none.
func (r *reader) op() int {
	for op, sign := range opSigns {
		if r.isAt(sign) {
			return op
		}
	}
	return 0
}

// value reads the value of a test; false, if a token stops it.
func (r *reader) value(t *api.Test) bool {
	compares := t.Op != api.OpIs && t.Op != api.OpNot
	if !compares && r.isOf(api.TokPattern) {
		t.Form, t.Pattern = api.FormPattern, strings.Clone(r.token().Text[len(percent):])
		r.now++
		return true
	}
	t.Form = api.FormNumber
	if !r.number(&t.Lo) {
		return false
	}
	switch {
	case compares:
		return true
	case r.isAt(signSlash):
		t.Form = api.FormPrefix
		r.now++
		return r.number(&t.Len)
	case r.isAt(signSpan):
		t.Form = api.FormRange
		r.now++
		return r.number(&t.Hi)
	}
	return true
}

// number reads a number; false, if none stands here.
func (r *reader) number(into *int) bool {
	t := r.token()
	v, errno := scan.Value(t.Text)
	if t.Kind != api.TokNumber || errno != api.OK {
		return false
	}
	*into = v
	r.now++
	return true
}

// token is the one that is looked at; behind the last one it is of no kind.
func (r *reader) token() api.Token {
	if r.now == len(r.tokens) {
		return api.Token{}
	}
	return r.tokens[r.now]
}

func (r *reader) isAt(sign string) bool {
	t := r.token()
	return t.Kind == api.TokSign && t.Text == sign
}

// isOf: whether a token of that kind stands here. Tokens need not come from Scan: one whose Text is not of its kind is none.
func (r *reader) isOf(kind int) bool {
	t := r.token()
	if t.Kind != kind {
		return false
	}
	found, _, _, _ := scan.Scan(t.Text)
	return len(found) > 0 && found[0].Kind == kind && found[0].Text == t.Text
}
