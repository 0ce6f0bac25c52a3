package conf

import (
	"strings"

	"reach/api"
)

// copyOf is a network in memory of its own, its texts too.
func copyOf(c api.Config) api.Config {
	return api.Config{
		Title:   strings.Clone(c.Title),
		Fields:  copies(c.Fields, copyOfField),
		Routing: strings.Clone(c.Routing),
		Slim:    c.Slim,
		Boxes:   copies(c.Boxes, copyOfBox),
		Links:   copies(c.Links, copyOfLink),
		Slices:  copies(c.Slices, copyOfSlice),
	}
}

func copies[T any](list []T, copyOf func(T) T) []T {
	var made []T
	for _, e := range list {
		made = append(made, copyOf(e))
	}
	return made
}

func copyOfField(f api.Field) api.Field {
	return api.Field{Name: strings.Clone(f.Name), Bits: f.Bits}
}

func copyOfBox(b api.Box) api.Box {
	return api.Box{
		Name:   strings.Clone(b.Name),
		Ins:    copies(b.Ins, strings.Clone),
		Outs:   copies(b.Outs, strings.Clone),
		Guards: copies(b.Guards, copyOfLine),
		Rules:  copies(b.Rules, copyOfRule),
		Owns:   copies(b.Owns, copyOfPrefix),
		Routes: copies(b.Routes, copyOfPrefix),
	}
}

func copyOfLine(g api.Line) api.Line {
	return api.Line{Port: strings.Clone(g.Port), Permit: g.Permit, Match: copies(g.Match, copyOfNode)}
}

func copyOfRule(u api.Rule) api.Rule {
	return api.Rule{
		Priority: u.Priority,
		From:     copies(u.From, strings.Clone),
		Match:    copies(u.Match, copyOfNode),
		Sets:     copies(u.Sets, copyOfSet),
		To:       copies(u.To, strings.Clone),
	}
}

func copyOfNode(n api.Node) api.Node {
	n.Test.Field, n.Test.Pattern = strings.Clone(n.Test.Field), strings.Clone(n.Test.Pattern)
	return n
}

func copyOfSet(s api.Set) api.Set {
	return api.Set{Field: strings.Clone(s.Field), Value: s.Value}
}

func copyOfPrefix(p api.Prefix) api.Prefix {
	return api.Prefix{Value: p.Value, Len: p.Len, To: strings.Clone(p.To)}
}

func copyOfLink(k api.Link) api.Link {
	return api.Link{From: strings.Clone(k.From), To: strings.Clone(k.To), Cost: k.Cost}
}

func copyOfSlice(s api.Slice) api.Slice {
	return api.Slice{Name: strings.Clone(s.Name), Ports: copies(s.Ports, strings.Clone), Where: copies(s.Where, copyOfNode)}
}
