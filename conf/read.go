package conf

import (
	"slices"
	"strings"

	"reach/api"
	"reach/expr"
	"reach/scan"
)

// reader goes over the tokens of a text. Where one cannot stand it gives up by a panic, and so it never comes past the end of a line that breaks off: a token is always there to look at.
type reader struct {
	tokens []api.Token
	now    int // the token that is looked at
	table  []keyword
	last   place    // of the line ahead
	heads  []string // the keywords of the head that have stood
	net    api.Config
	within bool // the line of an edit tells of the body of a box
	away   bool // it takes something away
}

// network reads a whole text.
func (r *reader) network() api.Config {
	for r.now < len(r.tokens) {
		k := r.keyword(r.mayFollow)
		k.read(r)
		r.end()
		r.last = k.place
		if k.place == placeHead {
			r.heads = append(r.heads, k.word)
		}
	}
	return r.net
}

// mayFollow: whether a line may stand behind those that were read.
func (r *reader) mayFollow(k keyword) bool {
	switch k.place {
	case placeHead:
		return r.last <= placeHead && !slices.Contains(r.heads, k.word)
	case placeBody:
		return r.last == placeBox || r.last == placeBody
	}
	return true
}

// change reads the one line of an edit.
func (r *reader) change() change {
	r.keyword(mayBegin).read(r)
	r.end()
	if r.now < len(r.tokens) {
		panic(r.wrong(api.ErrSyntax))
	}
	return change{r.net, r.within, r.away}
}

// mayBegin: whether an edit may begin with that word.
func mayBegin(k keyword) bool { return k.place != placeHead && k.place != placeBody }

// mayGo: whether an edit may take away what that word tells.
func mayGo(k keyword) bool { return mayBegin(k) && k.place != placeNo }

func isOfBody(k keyword) bool { return k.place == placeBody }

// wrong is the refusal of the token that is looked at.
func (r *reader) wrong(errno api.Errno) refusal {
	return refusal{errno, r.token().Line}
}

func (r *reader) token() api.Token { return r.tokens[r.now] }

func (r *reader) isAt(kind int, text string) bool {
	t := r.token()
	return t.Kind == kind && t.Text == text
}

// keyword passes a keyword that may stand here.
func (r *reader) keyword(may func(keyword) bool) keyword {
	for _, k := range r.table {
		if !r.isAt(api.TokName, k.word) {
			continue
		}
		if !may(k) {
			panic(r.wrong(api.ErrOrder))
		}
		r.now++
		return k
	}
	panic(r.wrong(api.ErrKeyword))
}

// passes passes a token, if it stands here.
func (r *reader) passes(kind int, text string) bool {
	is := r.isAt(kind, text)
	if is {
		r.now++
	}
	return is
}

func (r *reader) passesWord(word string) bool { return r.passes(api.TokName, word) }

func (r *reader) passesComma() bool { return r.passes(api.TokSign, signComma) }

func (r *reader) word(word string) {
	if !r.passesWord(word) {
		panic(r.wrong(api.ErrSyntax))
	}
}

func (r *reader) sign(sign string) {
	if !r.passes(api.TokSign, sign) {
		panic(r.wrong(api.ErrSyntax))
	}
}

// end passes the line's end.
func (r *reader) end() { r.text(api.TokEnd) }

// text passes a token of that kind and tells its Text: a copy, since a piece would keep the whole text that was cut.
func (r *reader) text(kind int) string {
	t := r.token()
	if t.Kind != kind {
		panic(r.wrong(api.ErrSyntax))
	}
	r.now++
	return strings.Clone(t.Text)
}

func (r *reader) isAtName() bool { return isName(r.token()) }

func (r *reader) isAtPort() bool { return isPort(r.token()) }

func (r *reader) name() string {
	if !r.isAtName() {
		panic(r.wrong(api.ErrSyntax))
	}
	return r.text(api.TokName)
}

func (r *reader) port() string {
	if !r.isAtPort() {
		panic(r.wrong(api.ErrSyntax))
	}
	return r.text(api.TokPort)
}

func (r *reader) number() int {
	v, _ := scan.Value(r.text(api.TokNumber))
	return v
}

// match reads an expression, as far as it goes.
func (r *reader) match() []api.Node {
	nodes, behind, errno := expr.Read(r.tokens, r.now)
	if errno != api.OK {
		panic(r.wrong(errno))
	}
	r.now = behind
	return nodes
}

// listed reads parts, one at least, as long as more says that another one follows.
func listed[T any](part func() T, more func() bool) []T {
	list := []T{part()}
	for more() {
		list = append(list, part())
	}
	return list
}

func (r *reader) names() []string { return listed(r.name, r.isAtName) }

func (r *reader) namesByComma() []string { return listed(r.name, r.passesComma) }
