package delta

import (
	"slices"
	"strings"

	"reach/api"
	"reach/conf"
)

// Things of a well-formed network as the lines of a text. Two things are the same, word for word, just if their lines are.

// someBox has a body's line in the text that it is taken from.
const someBox = "B"

func boxLine(b api.Box) string { return written(api.Config{Boxes: []api.Box{{Name: b.Name}}}) }

func inLine(name string) string { return bodyLine(api.Box{Ins: []string{name}}) }

func outLine(name string) string { return bodyLine(api.Box{Outs: []string{name}}) }

func guardLine(g api.Line) string { return bodyLine(api.Box{Guards: []api.Line{g}}) }

// ruleLine has the From in one order, since theirs says nothing.
func ruleLine(u api.Rule) string {
	u.From = slices.Sorted(slices.Values(u.From))
	return bodyLine(api.Box{Rules: []api.Rule{u}})
}

func ownLine(p api.Prefix) string { return bodyLine(api.Box{Owns: []api.Prefix{p}}) }

func routeLine(p api.Prefix) string { return bodyLine(api.Box{Routes: []api.Prefix{p}}) }

func linkLine(k api.Link) string { return written(api.Config{Links: []api.Link{k}}) }

func sliceLine(s api.Slice) string { return written(api.Config{Slices: []api.Slice{s}}) }

func bodyLine(b api.Box) string {
	b.Name = someBox
	return written(api.Config{Boxes: []api.Box{b}})
}

// written is the last line of a network's text. A single thing of a well-formed network is always printed: no line of one is near MaxText.
func written(c api.Config) string {
	text, _ := conf.Print(c)
	text = strings.TrimSpace(text)
	return strings.TrimSpace(text[strings.LastIndex(text, "\n")+1:])
}

// named is what a line begins with, up to the word that names its thing: behind `no` that takes the thing away.
func named(line string) string {
	words := strings.Fields(line)
	return strings.Join(words[:2], " ")
}
