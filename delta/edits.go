package delta

import (
	"slices"

	"reach/api"
)

// edits are the lines of a change: those that take away, and those that add, both in the order in which the things stand in a text.
type edits struct {
	away, added []string
}

// lines: nothing is added before all is gone that may have its name. What goes, goes from the text's end on: so a thing goes ahead of what it names.
func (e *edits) lines() []string {
	slices.Reverse(e.away)
	return append(e.away, e.added...)
}

func (e *edits) network(a, b api.Config) {
	stay := inOrder(e, "", a.Boxes, b.Boxes, boxLine)
	for at, box := range b.Boxes {
		var was api.Box
		if at < stay {
			was = a.Boxes[slices.IndexFunc(a.Boxes, func(o api.Box) bool { return o.Name == box.Name })]
		}
		e.body(was, box)
	}
	inAnyOrder(e, "", a.Links, b.Links, linkLine)
	inAnyOrder(e, "", a.Slices, b.Slices, sliceLine)
}

func (e *edits) body(a, b api.Box) {
	at := "at " + b.Name + " "
	inOrder(e, at, a.Ins, b.Ins, inLine)
	inOrder(e, at, a.Outs, b.Outs, outLine)
	inOrder(e, at, a.Guards, b.Guards, guardLine)
	inAnyOrder(e, at, a.Rules, b.Rules, ruleLine)
	inAnyOrder(e, at, a.Owns, b.Owns, ownLine)
	inAnyOrder(e, at, a.Routes, b.Routes, routeLine)
}

// inOrder makes the list b of a, where the order says something. What is added stands behind all that stays, so b must begin with that; it tells how many of them stay.
func inOrder[T any](e *edits, at string, a, b []T, line func(T) string) int {
	stay, wanted := each(a, line), each(b, line)
	for n := alike(stay, wanted); n < len(stay); n = alike(stay, wanted) {
		gone := named(stay[n])
		e.take(at, gone)
		stay = slices.DeleteFunc(stay, func(l string) bool { return named(l) == gone })
	}
	for _, l := range wanted[len(stay):] {
		e.add(at, l)
	}
	return len(stay)
}

// inAnyOrder makes the list b of a, where the order says nothing.
func inAnyOrder[T any](e *edits, at string, a, b []T, line func(T) string) {
	was, wanted := each(a, line), each(b, line)
	for _, l := range was {
		if !slices.Contains(wanted, l) {
			e.take(at, named(l))
		}
	}
	for _, l := range wanted {
		if !slices.Contains(was, l) {
			e.add(at, l)
		}
	}
}

func (e *edits) take(at, name string) { e.away = append(e.away, "no "+at+name) }

func (e *edits) add(at, line string) { e.added = append(e.added, at+line) }

// each is the line of every element.
func each[T any](list []T, line func(T) string) []string {
	var lines []string
	for _, e := range list {
		lines = append(lines, line(e))
	}
	return lines
}

// alike is how many elements two lists have in common from their beginning on.
func alike(a, b []string) int {
	n := 0
	for n < min(len(a), len(b)) && a[n] == b[n] {
		n++
	}
	return n
}
