package conf

import (
	"slices"

	"reach/api"
)

// change is what the line of an edit says.
type change struct {
	told   api.Config // what is to be added or taken away, and nothing else
	within bool       // that is the body of told's one box, and the box of this name is to change
	away   bool
}

// on is the network with the change made.
func (e change) on(c api.Config) (api.Config, api.Errno) {
	if e.within {
		return e.onBox(c, e.told.Boxes[0])
	}
	there := isThere(c, e.told)
	switch {
	case there && !e.away:
		return api.Config{}, api.ErrThere
	case !there && e.away:
		return api.Config{}, api.ErrGone
	}
	net := copyOf(c)
	if e.away {
		take(&net, e.told)
	} else {
		add(&net, e.told)
	}
	return net, api.OK
}

// onBox is the network with the change made in the first box that is named as told is.
func (e change) onBox(c api.Config, told api.Box) (api.Config, api.Errno) {
	at := slices.IndexFunc(c.Boxes, func(b api.Box) bool { return alikeBoxes(b, told) })
	switch {
	case at < 0:
		return api.Config{}, api.ErrGone
	case e.away && !isInBody(c.Boxes[at], told):
		return api.Config{}, api.ErrGone
	case !e.away && isTaken(c.Boxes[at], told):
		return api.Config{}, api.ErrThere
	}
	net := copyOf(c)
	if e.away {
		takeFromBody(&net.Boxes[at], told)
	} else {
		addToBody(&net.Boxes[at], told)
	}
	return net, api.OK
}

func isThere(c, told api.Config) bool {
	return meet(c.Boxes, told.Boxes, alikeBoxes) || meet(c.Links, told.Links, alikeLinks) || meet(c.Slices, told.Slices, alikeSlices)
}

func add(c *api.Config, told api.Config) {
	c.Boxes = append(c.Boxes, told.Boxes...)
	c.Links = append(c.Links, told.Links...)
	c.Slices = append(c.Slices, told.Slices...)
}

func take(c *api.Config, told api.Config) {
	c.Boxes = without(c.Boxes, told.Boxes, alikeBoxes)
	c.Links = without(c.Links, told.Links, alikeLinks)
	c.Slices = without(c.Slices, told.Slices, alikeSlices)
}

func isInBody(b, told api.Box) bool {
	return meet(b.Ins, told.Ins, alikePorts) || meet(b.Outs, told.Outs, alikePorts) || meet(b.Guards, told.Guards, alikeGuards) || meet(b.Rules, told.Rules, alikeRules) || meet(b.Owns, told.Owns, alikePrefixes) || meet(b.Routes, told.Routes, alikePrefixes)
}

// isTaken: whether what is told cannot be added. A port may have many guard lines.
func isTaken(b, told api.Box) bool {
	return isPortTaken(b, told) || meet(b.Rules, told.Rules, alikeRules) || meet(b.Owns, told.Owns, alikePrefixes) || meet(b.Routes, told.Routes, alikePrefixes)
}

// isPortTaken: whether one of the ports told is one of the box already, on whichever side, or is told twice.
func isPortTaken(b, told api.Box) bool {
	times := map[string]int{}
	for _, name := range slices.Concat(told.Ins, told.Outs) {
		times[name]++
		if times[name] > 1 {
			return true
		}
	}
	isTold := func(name string) bool { return times[name] > 0 }
	return slices.ContainsFunc(b.Ins, isTold) || slices.ContainsFunc(b.Outs, isTold)
}

func addToBody(b *api.Box, told api.Box) {
	b.Ins = append(b.Ins, told.Ins...)
	b.Outs = append(b.Outs, told.Outs...)
	b.Guards = append(b.Guards, told.Guards...)
	b.Rules = append(b.Rules, told.Rules...)
	b.Owns = append(b.Owns, told.Owns...)
	b.Routes = append(b.Routes, told.Routes...)
}

func takeFromBody(b *api.Box, told api.Box) {
	b.Ins = without(b.Ins, told.Ins, alikePorts)
	b.Outs = without(b.Outs, told.Outs, alikePorts)
	b.Guards = without(b.Guards, told.Guards, alikeGuards)
	b.Rules = without(b.Rules, told.Rules, alikeRules)
	b.Owns = without(b.Owns, told.Owns, alikePrefixes)
	b.Routes = without(b.Routes, told.Routes, alikePrefixes)
}

// meet: whether the list has an element that is named as one of those told.
func meet[T any](list, told []T, alike func(a, b T) bool) bool {
	return slices.ContainsFunc(list, func(e T) bool {
		return slices.ContainsFunc(told, func(t T) bool { return alike(e, t) })
	})
}

// without takes every element out of the list that is named as one of those told.
func without[T any](list, told []T, alike func(a, b T) bool) []T {
	return slices.DeleteFunc(list, func(e T) bool {
		return slices.ContainsFunc(told, func(t T) bool { return alike(e, t) })
	})
}

// By what things are named.

func alikeBoxes(a, b api.Box) bool { return a.Name == b.Name }

func alikeLinks(a, b api.Link) bool { return a.From == b.From }

func alikeSlices(a, b api.Slice) bool { return a.Name == b.Name }

func alikePorts(a, b string) bool { return a == b }

func alikeGuards(a, b api.Line) bool { return a.Port == b.Port }

func alikeRules(a, b api.Rule) bool { return a.Priority == b.Priority }

func alikePrefixes(a, b api.Prefix) bool { return a.Value == b.Value && a.Len == b.Len }
