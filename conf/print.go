package conf

import (
	"strings"

	"reach/api"
	"reach/expr"
	"reach/scan"
)

const (
	newline = "\n"
	indent  = "  "

	// plainBelow: numbers from here on are told as dotted quads.
	plainBelow = 65536
)

// writer writes a network line by line. At what no text gives it gives up by a panic; a text that is too long does not stop it, since what no text gives may still come.
type writer struct {
	text strings.Builder
	line []api.Token
	long bool
}

func (w *writer) network(c api.Config) {
	w.head(c)
	for _, b := range c.Boxes {
		w.box(b)
	}
	for _, k := range c.Links {
		w.link(k)
	}
	for _, s := range c.Slices {
		w.slice(s)
	}
}

func (w *writer) head(c api.Config) {
	if c.Title != "" {
		w.word(wordNetwork)
		w.quoted(c.Title)
		w.end("")
	}
	if len(c.Fields) > 0 {
		w.word(wordHeader)
		for _, f := range c.Fields {
			w.name(f.Name)
			w.sign(signColon)
			w.number(f.Bits)
		}
		w.end("")
	}
	if c.Routing != "" {
		w.word(wordRouting)
		w.name(c.Routing)
		if c.Slim {
			w.word(wordSlim)
		}
		w.end("")
	} else if c.Slim {
		panic(refusal{errno: api.ErrPrint})
	}
}

func (w *writer) box(b api.Box) {
	w.word(wordBox)
	w.name(b.Name)
	w.end("")
	w.ports(wordIn, b.Ins)
	w.ports(wordOut, b.Outs)
	for _, g := range b.Guards {
		w.guard(g)
	}
	for _, u := range b.Rules {
		w.rule(u)
	}
	w.prefixes(wordOwn, b.Owns)
	w.prefixes(wordRoute, b.Routes)
}

func (w *writer) ports(keyword string, names []string) {
	if len(names) > 0 {
		w.word(keyword)
		w.names(names, "")
		w.end(indent)
	}
}

func (w *writer) guard(g api.Line) {
	w.word(wordGuard)
	w.name(g.Port)
	if g.Permit {
		w.word(wordPermit)
	} else {
		w.word(wordDeny)
	}
	w.match(g.Match)
	w.end(indent)
}

func (w *writer) rule(u api.Rule) {
	w.word(wordRule)
	w.number(u.Priority)
	if len(u.From) > 0 {
		w.word(wordFrom)
		w.names(u.From, "")
	}
	w.word(wordMatch)
	w.match(u.Match)
	if len(u.Sets) > 0 {
		w.word(wordSet)
		w.sets(u.Sets)
	}
	if len(u.To) > 0 {
		w.word(wordTo)
		w.names(u.To, signComma)
	} else {
		w.word(wordDrop)
	}
	w.end(indent)
}

func (w *writer) sets(sets []api.Set) {
	for n, s := range sets {
		if n > 0 {
			w.sign(signComma)
		}
		w.name(s.Field)
		w.sign(signEqual)
		w.number(s.Value)
	}
}

func (w *writer) prefixes(keyword string, list []api.Prefix) {
	for _, p := range list {
		w.word(keyword)
		w.quad(p.Value)
		w.sign(signSlash)
		w.number(p.Len)
		w.word(wordTo)
		w.name(p.To)
		w.end(indent)
	}
}

func (w *writer) link(k api.Link) {
	w.word(wordLink)
	w.port(k.From)
	w.sign(signArrow)
	w.port(k.To)
	if k.Cost != plainCost {
		w.word(wordCost)
		w.number(k.Cost)
	}
	w.end("")
}

func (w *writer) slice(s api.Slice) {
	w.word(wordSlice)
	w.name(s.Name)
	for _, p := range s.Ports {
		w.port(p)
	}
	w.word(wordWhere)
	w.match(s.Where)
	w.end("")
}

// put adds a token to the line. A line of more tokens than a text has bytes is too long whatever they are.
func (w *writer) put(kind int, text string) {
	if len(w.line) <= api.MaxText {
		w.line = append(w.line, api.Token{Kind: kind, Text: text})
	}
}

func (w *writer) word(word string) { w.put(api.TokName, word) }

func (w *writer) sign(sign string) { w.put(api.TokSign, sign) }

// told adds a token, if a text has it.
func (w *writer) told(kind int, text string, errno api.Errno) {
	if errno != api.OK {
		panic(refusal{errno: api.ErrPrint})
	}
	w.put(kind, text)
}

func (w *writer) quoted(said string) {
	text, errno := scan.Quote(said)
	w.told(api.TokText, text, errno)
}

func (w *writer) number(v int) {
	text, errno := scan.Number(v, v >= plainBelow)
	w.told(api.TokNumber, text, errno)
}

func (w *writer) quad(v int) {
	text, errno := scan.Number(v, true)
	w.told(api.TokNumber, text, errno)
}

func (w *writer) name(name string) { w.whole(name, isName) }

func (w *writer) port(name string) { w.whole(name, isPort) }

// whole adds a text that is wholly one token, of those that are asked for.
func (w *writer) whole(text string, is func(api.Token) bool) {
	tokens, _, _, _ := scan.Scan(text)
	if len(tokens) == 0 || tokens[0].Text != text || !is(tokens[0]) {
		panic(refusal{errno: api.ErrPrint})
	}
	w.put(tokens[0].Kind, text)
}

// names adds names, with a sign between each two, if one is given.
func (w *writer) names(names []string, between string) {
	for n, name := range names {
		if n > 0 && between != "" {
			w.sign(between)
		}
		w.name(name)
	}
}

// match adds an expression. It is cut into its tokens again, since the layout is one of a whole line.
func (w *writer) match(e []api.Node) {
	text, errno := expr.Print(e)
	if errno != api.OK {
		panic(refusal{errno: api.ErrPrint})
	}
	tokens, _, _, _ := scan.Scan(text)
	for _, t := range tokens[:len(tokens)-1] {
		w.put(t.Kind, t.Text)
	}
}

// end lays out the line.
func (w *writer) end(ahead string) {
	w.put(api.TokEnd, newline)
	text, errno := scan.Print(w.line)
	w.line = w.line[:0]
	w.long = w.long || errno != api.OK || w.text.Len()+len(ahead)+len(text) > api.MaxText
	if !w.long {
		w.text.WriteString(ahead)
		w.text.WriteString(text)
	}
}
