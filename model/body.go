package model

import (
	"strconv"

	"reach/api"
	"reach/field"
)

func (l *look) bodies() bool {
	for _, b := range l.net.Boxes {
		if !l.guards(b) || !l.rules(b) || !l.prefixes(b, b.Owns, " own") || !l.prefixes(b, b.Routes, " route") {
			return false
		}
	}
	return true
}

func (l *look) guards(b api.Box) bool {
	for _, g := range b.Guards {
		told := b.Name + " guard " + g.Port
		if _, there := l.numbers[fullName(b.Name, g.Port)]; !there {
			return l.refuse(api.ErrUnknown, told)
		}
		if !l.isRight(g.Match) {
			return l.refuse(api.ErrMatch, told)
		}
	}
	return true
}

func (l *look) rules(b api.Box) bool {
	priorities := map[int]int{}
	for _, r := range b.Rules {
		if errno := l.asRule(b, r, priorities); errno != api.OK {
			return l.refuse(errno, b.Name+" rule "+strconv.Itoa(r.Priority))
		}
	}
	return true
}

// asRule is what speaks against a rule of a box whose earlier rules have those priorities.
func (l *look) asRule(b api.Box, r api.Rule, priorities map[int]int) api.Errno {
	if r.Priority < 0 || r.Priority > api.MaxPriority || !enter(priorities, r.Priority) {
		return api.ErrPriority
	}
	if errno := l.asPorts(b, r.From, true); errno != api.OK {
		return errno
	}
	if !l.isRight(r.Match) {
		return api.ErrMatch
	}
	if _, errno := field.Word(l.net.Fields, r.Sets); errno != api.OK {
		return api.ErrSets
	}
	if len(r.To) > api.MaxOuts {
		return api.ErrCount
	}
	return l.asPorts(b, r.To, false)
}

// asPorts is what speaks against a list of ports of a box, where those of one side are asked for, each once.
func (l *look) asPorts(b api.Box, ports []string, in bool) api.Errno {
	stands := map[string]int{}
	for _, port := range ports {
		if errno := l.asPort(fullName(b.Name, port), in); errno != api.OK {
			return errno
		}
		if !enter(stands, port) {
			return api.ErrDouble
		}
	}
	return api.OK
}

// prefix is what no two elements of one list of routes have in common.
type prefix struct{ value, length int }

func (l *look) prefixes(b api.Box, list []api.Prefix, kind string) bool {
	stands := map[prefix]int{}
	for _, p := range list {
		if !l.fits(p) || !enter(stands, prefix{p.Value, p.Len}) {
			return l.refuse(api.ErrPrefix, b.Name+kind)
		}
		if errno := l.asPort(fullName(b.Name, p.To), false); errno != api.OK {
			return l.refuse(errno, b.Name+kind)
		}
	}
	return true
}

// fits: whether there is a field that is routed on, and the prefix is one of its values.
func (l *look) fits(p api.Prefix) bool {
	bits := l.routed()
	if bits == 0 || p.Len < 0 || p.Len > bits {
		return false
	}
	return p.Value >= 0 && p.Value < 1<<bits && p.Value%(1<<(bits-p.Len)) == 0
}
