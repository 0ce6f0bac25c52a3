package model

import (
	"strings"

	"reach/api"
	"reach/conf"
	"reach/expr"
	"reach/field"
)

// look goes through a network up to its first offence, and numbers what it finds well-named on the way. Its steps answer whether there is no offence as yet.
type look struct {
	net   api.Config
	errno api.Errno
	told  string

	boxes   map[string]int
	numbers map[string]int // of the ports, by their full names
	free    map[string]int // the same, of the out-ports that no link leaves as yet
	zones   map[string]int
	ports   []api.Port // by their numbers, as yet without names
}

func lookAt(c api.Config) *look {
	l := &look{net: c, boxes: map[string]int{}, numbers: map[string]int{}, free: map[string]int{}, zones: map[string]int{}}
	l.whole()
	return l
}

func (l *look) whole() bool {
	return l.head() && l.counts() && l.names() && l.bodies() && l.links() && l.slices()
}

func (l *look) refuse(errno api.Errno, told string) bool {
	// What is told may be a name of the network as it stands there: the answer has its own memory.
	l.errno, l.told = errno, strings.Clone(told)
	return false
}

func (l *look) head() bool {
	if len(l.net.Title) > api.MaxString {
		return l.refuse(api.ErrCount, "network")
	}
	if errno, place := field.Check(l.net.Fields); errno != api.OK {
		return l.refuse(api.ErrLayout, nameAt(l.net.Fields, place))
	}
	for _, f := range l.net.Fields {
		if !isName(f.Name) {
			return l.refuse(api.ErrLayout, f.Name)
		}
	}
	if l.routed() == 0 && (l.net.Routing != "" || l.net.Slim) {
		return l.refuse(api.ErrUnknown, l.net.Routing)
	}
	return true
}

// nameAt is the name of the field that field.Check tells of; where it tells of none, since they are too many or none, it is empty.
func nameAt(fields []api.Field, place int) string {
	if len(fields) == 0 || len(fields) > api.MaxFields {
		return ""
	}
	return fields[place].Name
}

// routed is how many bits the field has that is routed on; 0, if there is none.
func (l *look) routed() int {
	for _, f := range l.net.Fields {
		if f.Name == l.net.Routing {
			return f.Bits
		}
	}
	return 0
}

func (l *look) counts() bool {
	var ports, guards, rules, routes int
	for _, b := range l.net.Boxes {
		ports += len(b.Ins) + len(b.Outs)
		guards += len(b.Guards)
		rules += len(b.Rules)
		routes += len(b.Owns) + len(b.Routes)
	}
	for _, count := range [...]struct {
		of       string
		is, most int
	}{
		{"boxes", len(l.net.Boxes), api.MaxBoxes},
		{"ports", ports, api.MaxPorts},
		{"guards", guards, api.MaxLines},
		{"rules", rules, api.MaxRules},
		{"routes", routes, api.MaxRoutes},
		{"links", len(l.net.Links), api.MaxLinks},
		{"slices", len(l.net.Slices), api.MaxSlices},
	} {
		if count.is > count.most {
			return l.refuse(api.ErrCount, count.of)
		}
	}
	return true
}

func (l *look) names() bool {
	for place, b := range l.net.Boxes {
		if !isName(b.Name) {
			return l.refuse(api.ErrName, b.Name)
		}
		if !enter(l.boxes, b.Name) {
			return l.refuse(api.ErrDouble, b.Name)
		}
		if !l.portNames(place, b.Ins, true) || !l.portNames(place, b.Outs, false) {
			return false
		}
	}
	return true
}

func (l *look) portNames(box int, ports []string, in bool) bool {
	for _, port := range ports {
		full := fullName(l.net.Boxes[box].Name, port)
		if !isName(port) {
			return l.refuse(api.ErrName, full)
		}
		if !enter(l.numbers, full) {
			return l.refuse(api.ErrDouble, full)
		}
		l.ports = append(l.ports, api.Port{Box: box, In: in, To: -1})
		if !in {
			l.free[full] = l.numbers[full]
		}
	}
	return true
}

func (l *look) links() bool {
	for _, link := range l.net.Links {
		if errno := l.asPort(link.From, false); errno != api.OK {
			return l.refuse(errno, link.From)
		}
		if errno := l.asPort(link.To, true); errno != api.OK {
			return l.refuse(errno, link.To)
		}
		if link.Cost < 1 || link.Cost > api.MaxCost {
			return l.refuse(api.ErrCount, link.From)
		}
		out, free := l.free[link.From]
		if !free {
			return l.refuse(api.ErrLinked, link.From)
		}
		delete(l.free, link.From)
		l.ports[out].To = l.numbers[link.To]
	}
	return true
}

func (l *look) slices() bool {
	for _, s := range l.net.Slices {
		if !isName(s.Name) {
			return l.refuse(api.ErrName, s.Name)
		}
		if !enter(l.zones, s.Name) {
			return l.refuse(api.ErrDouble, s.Name)
		}
		stands := map[string]int{}
		for _, port := range s.Ports {
			if _, there := l.numbers[port]; !there {
				return l.refuse(api.ErrUnknown, port)
			}
			if !enter(stands, port) {
				return l.refuse(api.ErrDouble, port)
			}
		}
		if !l.isRight(s.Where) {
			return l.refuse(api.ErrMatch, s.Name)
		}
	}
	return true
}

// asPort is what speaks against a port, by its full name, where one of that side is asked for.
func (l *look) asPort(full string, in bool) api.Errno {
	number, there := l.numbers[full]
	switch {
	case !there:
		return api.ErrUnknown
	case l.ports[number].In != in:
		return api.ErrSide
	}
	return api.OK
}

func (l *look) isRight(match []api.Node) bool { return expr.Check(l.net.Fields, match) == api.OK }

// isName asks the printer of networks, since the reserved words are conf's.
func isName(name string) bool {
	_, errno := conf.Print(api.Config{Boxes: []api.Box{{Name: name}}})
	return errno == api.OK
}

// fullName: no box's name has a point, so no two ports have one full name.
func fullName(box, port string) string { return box + "." + port }

// enter gives a key the next number; it is false, if the key has one already.
func enter[K comparable](numbers map[K]int, key K) bool {
	if _, there := numbers[key]; there {
		return false
	}
	numbers[key] = len(numbers)
	return true
}
