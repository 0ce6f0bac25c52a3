package model_test

// A second telling of chapter 7, to hold the package against: it gathers every offence of a part, and looks names up by going through the lists. Whether a layout, a match or sets are right it asks of the layers below, as the document does.

import (
	"fmt"
	"reflect"
	"regexp"
	"slices"
	"strings"

	"reach/api"
	"reach/expr"
	"reach/field"
)

const reservedWords = " network header routing slim box in out guard permit deny rule from match set to drop own route link cost slice where any none at no "

var nameForm = regexp.MustCompile(`^[A-Za-z_][A-Za-z_0-9]{0,23}$`)

func isReserved(name string) bool { return strings.Contains(reservedWords, " "+name+" ") }

func isName(name string) bool {
	return nameForm.MatchString(name) && !strings.HasSuffix(name, "\n") && !isReserved(name)
}

type offence struct {
	errno api.Errno
	told  string
}

// found gathers offences in the order of the document.
type found []offence

func (f *found) add(offends bool, errno api.Errno, told string) {
	if offends {
		*f = append(*f, offence{errno, told})
	}
}

func tellCheck(c api.Config) offence {
	for _, part := range []func(api.Config) found{tellHead, tellCounts, tellNames, tellBodies, tellLinks, tellSlices} {
		if list := part(c); len(list) > 0 {
			return list[0]
		}
	}
	return offence{api.OK, ""}
}

func tellHead(c api.Config) (f found) {
	f.add(len(c.Title) > 256, api.ErrCount, "network")
	switch errno, at := field.Check(c.Fields); {
	case len(c.Fields) == 0 || len(c.Fields) > 12:
		f.add(true, api.ErrLayout, "")
	default:
		f.add(errno != api.OK, api.ErrLayout, c.Fields[at].Name)
	}
	isField := false
	for _, one := range c.Fields {
		f.add(isReserved(one.Name), api.ErrLayout, one.Name)
		isField = isField || one.Name == c.Routing
	}
	f.add(c.Routing != "" && !isField || c.Slim && c.Routing == "", api.ErrUnknown, c.Routing)
	return f
}

func tellCounts(c api.Config) (f found) {
	var all api.Box
	for _, b := range c.Boxes {
		all.Ins = slices.Concat(all.Ins, b.Ins, b.Outs)
		all.Guards = append(all.Guards, b.Guards...)
		all.Rules = append(all.Rules, b.Rules...)
		all.Owns = slices.Concat(all.Owns, b.Owns, b.Routes)
	}
	f.add(len(c.Boxes) > 16, api.ErrCount, "boxes")
	f.add(len(all.Ins) > 48, api.ErrCount, "ports")
	f.add(len(all.Guards) > 64, api.ErrCount, "guards")
	f.add(len(all.Rules) > 64, api.ErrCount, "rules")
	f.add(len(all.Owns) > 64, api.ErrCount, "routes")
	f.add(len(c.Links) > 48, api.ErrCount, "links")
	f.add(len(c.Slices) > 8, api.ErrCount, "slices")
	return f
}

func tellNames(c api.Config) (f found) {
	for n, b := range c.Boxes {
		f.add(!isName(b.Name), api.ErrName, b.Name)
		f.add(slices.ContainsFunc(c.Boxes[:n], func(other api.Box) bool { return other.Name == b.Name }), api.ErrDouble, b.Name)
		ports := slices.Concat(b.Ins, b.Outs)
		for k, p := range ports {
			f.add(!isName(p), api.ErrName, b.Name+"."+p)
			f.add(slices.Contains(ports[:k], p), api.ErrDouble, b.Name+"."+p)
		}
	}
	return f
}

func wrong(c api.Config, match []api.Node) bool { return expr.Check(c.Fields, match) != api.OK }

// ports: each one of right, which none of wrong is, and no two the same.
func (f *found) ports(list, right, wrong []string, told string) {
	for n, p := range list {
		f.add(!slices.Contains(slices.Concat(right, wrong), p), api.ErrUnknown, told)
		f.add(slices.Contains(wrong, p), api.ErrSide, told)
		f.add(slices.Contains(list[:n], p), api.ErrDouble, told)
	}
}

func tellBodies(c api.Config) (f found) {
	for _, b := range c.Boxes {
		for _, g := range b.Guards {
			f.add(!slices.Contains(b.Ins, g.Port) && !slices.Contains(b.Outs, g.Port), api.ErrUnknown, b.Name+" guard "+g.Port)
			f.add(wrong(c, g.Match), api.ErrMatch, b.Name+" guard "+g.Port)
		}
		for n, r := range b.Rules {
			told := fmt.Sprintf("%s rule %d", b.Name, r.Priority)
			f.add(r.Priority < 0 || r.Priority > 65535, api.ErrPriority, told)
			f.add(slices.ContainsFunc(b.Rules[:n], func(other api.Rule) bool { return other.Priority == r.Priority }), api.ErrPriority, told)
			f.ports(r.From, b.Ins, b.Outs, told)
			f.add(wrong(c, r.Match), api.ErrMatch, told)
			_, errno := field.Word(c.Fields, r.Sets)
			f.add(errno != api.OK, api.ErrSets, told)
			f.add(len(r.To) > 4, api.ErrCount, told)
			f.ports(r.To, b.Outs, b.Ins, told)
		}
		f.prefixes(c, b, b.Owns, b.Name+" own")
		f.prefixes(c, b, b.Routes, b.Name+" route")
	}
	return f
}

func (f *found) prefixes(c api.Config, b api.Box, list []api.Prefix, told string) {
	for n, p := range list {
		f.add(!isPrefix(c, p), api.ErrPrefix, told)
		for _, other := range list[:n] {
			f.add(other.Value == p.Value && other.Len == p.Len, api.ErrPrefix, told)
		}
		f.ports([]string{p.To}, b.Outs, b.Ins, told)
	}
}

// isPrefix: the value, in the bits of the field that is routed on, has zeros alone behind the prefix.
func isPrefix(c api.Config, p api.Prefix) bool {
	for _, one := range c.Fields {
		if one.Name == c.Routing && p.Value >= 0 && p.Len >= 0 && p.Len <= one.Bits {
			bits := fmt.Sprintf("%0*b", one.Bits, p.Value)
			return len(bits) == one.Bits && !strings.Contains(bits[p.Len:], "1")
		}
	}
	return false
}

// fullNames: those of all in-ports and of all out-ports.
func fullNames(c api.Config) (ins, outs []string) {
	for _, b := range c.Boxes {
		for _, p := range b.Ins {
			ins = append(ins, b.Name+"."+p)
		}
		for _, p := range b.Outs {
			outs = append(outs, b.Name+"."+p)
		}
	}
	return ins, outs
}

func tellLinks(c api.Config) (f found) {
	ins, outs := fullNames(c)
	for n, l := range c.Links {
		f.ports([]string{l.From}, outs, ins, l.From)
		f.ports([]string{l.To}, ins, outs, l.To)
		f.add(l.Cost < 1 || l.Cost > 9999, api.ErrCount, l.From)
		f.add(slices.ContainsFunc(c.Links[:n], func(other api.Link) bool { return other.From == l.From }), api.ErrLinked, l.From)
	}
	return f
}

func tellSlices(c api.Config) (f found) {
	ins, outs := fullNames(c)
	for n, s := range c.Slices {
		f.add(!isName(s.Name), api.ErrName, s.Name)
		f.add(slices.ContainsFunc(c.Slices[:n], func(other api.Slice) bool { return other.Name == s.Name }), api.ErrDouble, s.Name)
		for k, p := range s.Ports {
			f.add(!slices.Contains(ins, p) && !slices.Contains(outs, p), api.ErrUnknown, p)
			f.add(slices.Contains(s.Ports[:k], p), api.ErrDouble, p)
		}
		f.add(wrong(c, s.Where), api.ErrMatch, s.Name)
	}
	return f
}

func tellPorts(c api.Config) ([]api.Port, api.Errno) {
	if why := tellCheck(c); why.errno != api.OK {
		return nil, why.errno
	}
	var ports []api.Port
	for n, b := range c.Boxes {
		for _, p := range b.Ins {
			ports = append(ports, api.Port{Name: b.Name + "." + p, Box: n, In: true, To: -1})
		}
		for _, p := range b.Outs {
			ports = append(ports, api.Port{Name: b.Name + "." + p, Box: n, To: -1})
		}
	}
	for _, l := range c.Links {
		ports[placeOf(ports, l.From)].To = placeOf(ports, l.To)
	}
	return ports, api.OK
}

func placeOf(ports []api.Port, name string) int {
	return slices.IndexFunc(ports, func(p api.Port) bool { return p.Name == name })
}

func tellFind(c api.Config, name string) int {
	ports, _ := tellPorts(c)
	return placeOf(ports, name)
}

func tellEdges(c api.Config) ([]api.Edge, api.Errno) {
	ports, errno := tellPorts(c)
	var edges []api.Edge
	for out, p := range ports {
		for _, l := range c.Links {
			if l.From == p.Name {
				edges = append(edges, api.Edge{From: p.Box, To: ports[placeOf(ports, l.To)].Box, Cost: l.Cost, Out: out})
			}
		}
	}
	return edges, errno
}

func tellZone(c api.Config, name string) (api.Zone, api.Errno) {
	ports, errno := tellPorts(c)
	if errno != api.OK {
		return api.Zone{}, errno
	}
	for _, s := range c.Slices {
		if s.Name != name {
			continue
		}
		where, errno := expr.Space(c.Fields, s.Where)
		if errno != api.OK {
			return api.Zone{}, errno
		}
		zone := api.Zone{Space: where.Text()}
		for _, p := range s.Ports {
			zone.Ports = append(zone.Ports, placeOf(ports, p))
		}
		return zone, api.OK
	}
	return api.Zone{}, api.ErrUnknown
}

// cloned: a value in memory of its own, lists without an element as nil.
func cloned[T any](v T) T {
	var out T
	cloneInto(reflect.ValueOf(&out).Elem(), reflect.ValueOf(v))
	return out
}

func cloneInto(into, from reflect.Value) {
	switch from.Kind() {
	case reflect.Struct:
		for n := range from.NumField() {
			cloneInto(into.Field(n), from.Field(n))
		}
	case reflect.Slice:
		for n := range from.Len() {
			element := reflect.New(from.Type().Elem()).Elem()
			cloneInto(element, from.Index(n))
			into.Set(reflect.Append(into, element))
		}
	default:
		into.Set(from)
	}
}

// equal: whether two values are the same in every part and order, nil lists and empty ones alike.
func equal[T any](a, b T) bool { return reflect.DeepEqual(cloned(a), cloned(b)) }
