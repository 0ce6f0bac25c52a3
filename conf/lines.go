package conf

import (
	"reach/api"
	"reach/scan"
)

// What stands behind the keywords. Each line is read into r.net, a line of a body into its last box.

func (r *reader) title() {
	r.net.Title, _, _ = scan.Unquote(r.text(api.TokText))
}

func (r *reader) fields() {
	r.net.Fields = listed(r.field, r.isAtName)
}

func (r *reader) field() api.Field {
	name := r.name()
	r.sign(signColon)
	return api.Field{Name: name, Bits: r.number()}
}

func (r *reader) routing() {
	r.net.Routing = r.name()
	r.net.Slim = r.passesWord(wordSlim)
}

func (r *reader) box() {
	r.net.Boxes = append(r.net.Boxes, api.Box{Name: r.name()})
}

// body is the box that a line of a body belongs to.
func (r *reader) body() *api.Box { return &r.net.Boxes[len(r.net.Boxes)-1] }

func (r *reader) ins() {
	b := r.body()
	b.Ins = append(b.Ins, r.names()...)
}

func (r *reader) outs() {
	b := r.body()
	b.Outs = append(b.Outs, r.names()...)
}

func (r *reader) guard() {
	g := api.Line{Port: r.name(), Permit: r.passesWord(wordPermit)}
	if !g.Permit {
		r.word(wordDeny)
	}
	g.Match = r.match()
	b := r.body()
	b.Guards = append(b.Guards, g)
}

func (r *reader) rule() {
	u := api.Rule{Priority: r.number()}
	if r.passesWord(wordFrom) {
		u.From = r.names()
	}
	r.word(wordMatch)
	u.Match = r.match()
	if r.passesWord(wordSet) {
		u.Sets = listed(r.set, r.passesComma)
	}
	if !r.passesWord(wordDrop) {
		r.word(wordTo)
		u.To = r.namesByComma()
	}
	b := r.body()
	b.Rules = append(b.Rules, u)
}

func (r *reader) set() api.Set {
	name := r.name()
	r.sign(signEqual)
	return api.Set{Field: name, Value: r.number()}
}

func (r *reader) own() {
	b := r.body()
	b.Owns = append(b.Owns, r.way())
}

func (r *reader) route() {
	b := r.body()
	b.Routes = append(b.Routes, r.way())
}

// way is a prefix and where it leads.
func (r *reader) way() api.Prefix {
	p := r.prefix()
	r.word(wordTo)
	p.To = r.name()
	return p
}

func (r *reader) prefix() api.Prefix {
	value := r.number()
	r.sign(signSlash)
	return api.Prefix{Value: value, Len: r.number()}
}

func (r *reader) link() {
	k := api.Link{From: r.port(), Cost: plainCost}
	r.sign(signArrow)
	k.To = r.port()
	if r.passesWord(wordCost) {
		k.Cost = r.number()
	}
	r.net.Links = append(r.net.Links, k)
}

func (r *reader) slice() {
	s := api.Slice{Name: r.name()}
	for r.isAtPort() {
		s.Ports = append(s.Ports, r.port())
	}
	r.word(wordWhere)
	s.Where = r.match()
	r.net.Slices = append(r.net.Slices, s)
}

// What stands behind the keywords of a line that takes something away: things of which only that is known by which they are named.

func (r *reader) namedIn() {
	b := r.body()
	b.Ins = append(b.Ins, r.name())
}

func (r *reader) namedOut() {
	b := r.body()
	b.Outs = append(b.Outs, r.name())
}

func (r *reader) namedGuard() {
	b := r.body()
	b.Guards = append(b.Guards, api.Line{Port: r.name()})
}

func (r *reader) namedRule() {
	b := r.body()
	b.Rules = append(b.Rules, api.Rule{Priority: r.number()})
}

func (r *reader) namedOwn() {
	b := r.body()
	b.Owns = append(b.Owns, r.prefix())
}

func (r *reader) namedRoute() {
	b := r.body()
	b.Routes = append(b.Routes, r.prefix())
}

func (r *reader) namedLink() {
	r.net.Links = append(r.net.Links, api.Link{From: r.port()})
}

func (r *reader) namedSlice() {
	r.net.Slices = append(r.net.Slices, api.Slice{Name: r.name()})
}

// at and namedAt read a box's name, and the line of a body behind it into a box of that name.

func (r *reader) at() { r.atBody().read(r) }

func (r *reader) namedAt() { r.atBody().named(r) }

func (r *reader) atBody() keyword {
	r.box()
	r.within = true
	return r.keyword(isOfBody)
}

func (r *reader) no() {
	r.away = true
	r.keyword(mayGo).named(r)
}
