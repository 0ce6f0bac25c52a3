package lower_test

// A second telling of chapter 9: cubes as texts that are cut place by place, ports by their names, names of entries by fmt. What a match means as a space, and which routes there are, it asks of the layers below, as the document does.

import (
	"fmt"
	"maps"
	"regexp"
	"slices"
	"strings"

	"reach/api"
	"reach/expr"
	"reach/model"
	"reach/rib"
)

// tellCut: the cube c without the cube d, both as texts.
func tellCut(c, d string) []string {
	for at := range c {
		if c[at] != 'x' && d[at] != 'x' && c[at] != d[at] {
			return []string{c}
		}
	}
	var pieces []string
	for at := range c {
		if c[at] == 'x' && d[at] != 'x' {
			other := string('0' + '1' - d[at])
			pieces = append(pieces, c[:at]+other+c[at+1:])
			c = c[:at] + d[at:at+1] + c[at+1:]
		}
	}
	return pieces
}

// tellCubes: the cubes of an expression; false, if they are too many on the way.
func tellCubes(fields []api.Field, match []api.Node) ([]string, bool) {
	s, errno := expr.Space(fields, match)
	if errno != api.OK {
		return nil, false
	}
	var done []string
	if s.Text() == "none" {
		return nil, true
	}
	for term := range strings.SplitSeq(s.Text(), "+") {
		parts := strings.Split(term, "-")
		list := parts[:1]
		for at := range parts {
			if at > 0 {
				var next []string
				for _, c := range list {
					next = append(next, tellCut(c, parts[at])...)
				}
				list = next
			}
			if len(done)+len(list) > 64 {
				return nil, false
			}
		}
		done = append(done, list...)
	}
	return done, true
}

// tellPorts: full names in their order, each with its box.
func tellPorts(c api.Config) []api.Port {
	var list []api.Port
	for box, b := range c.Boxes {
		for _, p := range b.Ins {
			list = append(list, api.Port{Name: b.Name + "." + p, Box: box, In: true, To: -1})
		}
		for _, p := range b.Outs {
			list = append(list, api.Port{Name: b.Name + "." + p, Box: box, To: -1})
		}
	}
	for _, l := range c.Links {
		list[tellNumber(list, l.From)].To = tellNumber(list, l.To)
	}
	return list
}

func tellNumber(ports []api.Port, name string) int {
	for at, p := range ports {
		if p.Name == name {
			return at
		}
	}
	panic("no port " + name)
}

func tellNumbers(c api.Config, box int, names []string) []int {
	var list []int
	for _, name := range names {
		list = append(list, tellNumber(tellPorts(c), c.Boxes[box].Name+"."+name))
	}
	return list
}

// tellOver: the text with a field's places overwritten from the first one on.
func tellOver(fields []api.Field, text, name, digits string) string {
	from := 0
	for _, f := range fields {
		if f.Name == name {
			return text[:from] + digits + text[from+len(digits):]
		}
		from += f.Bits
	}
	panic("no field " + name)
}

func tellBits(fields []api.Field, name string) int {
	for _, f := range fields {
		if f.Name == name {
			return f.Bits
		}
	}
	panic("no field " + name)
}

func tellAll(fields []api.Field) string {
	text := ""
	for _, f := range fields {
		text += strings.Repeat("x", f.Bits)
	}
	return text
}

func tellWrite(fields []api.Field, sets []api.Set) string {
	text := tellAll(fields)
	for _, s := range sets {
		text = tellOver(fields, text, s.Field, fmt.Sprintf("%0*b", tellBits(fields, s.Field), s.Value))
	}
	return text
}

func tellRule(c api.Config, box int, r api.Rule) (api.Entry, bool) {
	cubes, ok := tellCubes(c.Fields, r.Match)
	e := api.Entry{Name: fmt.Sprintf("%s rule %d", c.Boxes[box].Name, r.Priority), Cubes: cubes, Write: tellWrite(c.Fields, r.Sets), Outs: tellNumbers(c, box, r.To)}
	for _, p := range c.Boxes[box].Ins {
		if len(r.From) == 0 || slices.Contains(r.From, p) {
			e.Ins = append(e.Ins, tellNumbers(c, box, []string{p})...)
		}
	}
	return e, ok
}

func tellRoute(c api.Config, box int, r api.Route) api.Entry {
	word := map[int]string{1: "own", 2: "route", 3: "way"}[r.Kind]
	name := fmt.Sprintf("%s %s %d.%d.%d.%d/%d", c.Boxes[box].Name, word, r.Value>>24, r.Value>>16&255, r.Value>>8&255, r.Value&255, r.Len)
	digits := fmt.Sprintf("%0*b", tellBits(c.Fields, c.Routing), r.Value)[:r.Len]
	cube := tellOver(c.Fields, tellAll(c.Fields), c.Routing, digits)
	return api.Entry{Name: name, Ins: tellNumbers(c, box, c.Boxes[box].Ins), Cubes: []string{cube}, Write: tellAll(c.Fields), Outs: []int{r.Out}}
}

func tellTable(c api.Config, box int) ([]api.Entry, api.Errno) {
	if errno, _ := model.Check(c); errno != api.OK {
		return nil, errno
	}
	if box < 0 || box >= len(c.Boxes) {
		return nil, api.ErrArg
	}
	routes, _ := rib.Tables(c)
	var list []api.Entry
	byPriority := map[int]api.Rule{}
	for _, r := range c.Boxes[box].Rules {
		byPriority[r.Priority] = r
	}
	for _, priority := range slices.Backward(slices.Sorted(maps.Keys(byPriority))) {
		e, ok := tellRule(c, box, byPriority[priority])
		if !ok {
			return nil, api.ErrBudget
		}
		list = append(list, e)
	}
	for _, r := range routes[box] {
		list = append(list, tellRoute(c, box, r))
	}
	sum := 0
	for _, e := range list {
		sum += len(e.Cubes)
	}
	if sum > 512 {
		return nil, api.ErrBudget
	}
	return list, api.OK
}

func tellGuard(c api.Config, port int) ([]api.Guard, api.Errno) {
	if errno, _ := model.Check(c); errno != api.OK {
		return nil, errno
	}
	ports := tellPorts(c)
	if port < 0 || port >= len(ports) {
		return nil, api.ErrArg
	}
	var list []api.Guard
	sum := 0
	for _, l := range c.Boxes[ports[port].Box].Guards {
		if ports[port].Name == c.Boxes[ports[port].Box].Name+"."+l.Port {
			cubes, ok := tellCubes(c.Fields, l.Match)
			if sum += len(cubes); !ok || sum > 512 {
				return nil, api.ErrBudget
			}
			list = append(list, api.Guard{Permit: l.Permit, Cubes: cubes})
		}
	}
	return list, api.OK
}

func tellLower(c api.Config) (api.Net, api.Errno) {
	if errno, _ := model.Check(c); errno != api.OK {
		return api.Net{}, errno
	}
	n := api.Net{Bits: len(tellAll(c.Fields)), Ports: tellPorts(c)}
	entries := 0
	for box := range c.Boxes {
		table, errno := tellTable(c, box)
		if entries += len(table); errno != api.OK || entries > 256 {
			return api.Net{}, api.ErrBudget
		}
		n.Tables = append(n.Tables, table)
	}
	for port := range n.Ports {
		guard, errno := tellGuard(c, port)
		if errno != api.OK {
			return api.Net{}, api.ErrBudget
		}
		n.Guards = append(n.Guards, guard)
	}
	return n, api.OK
}

var portForm = regexp.MustCompile(`\A[A-Za-z_][A-Za-z_0-9]{0,23}\.[A-Za-z_][A-Za-z_0-9]{0,23}\z`)

// tellFaults: what of P9.5 does not hold.
func tellFaults(n api.Net) []string {
	var faults []string
	add := func(wrong bool, what string) {
		if wrong {
			faults = append(faults, what)
		}
	}
	add(n.Bits < 1 || n.Bits > 256, "bits")
	add(len(n.Tables) > 16, "tables")
	add(len(n.Ports) > 48, "ports")
	add(len(n.Guards) != len(n.Ports), "guards")
	lines, entries := 0, 0
	cube := regexp.MustCompile(fmt.Sprintf(`\A[01x]{%d}\z`, min(max(n.Bits, 0), 1000)))
	names := map[string]int{}
	for _, p := range n.Ports {
		names[p.Name]++
		add(!portForm.MatchString(p.Name), "a name that is none")
		add(names[p.Name] > 1, "a name twice")
		add(p.Box < 0 || p.Box >= len(n.Tables), "a box that is none")
		add(p.To != -1 && (p.In || p.To < 0 || p.To >= len(n.Ports) || !n.Ports[p.To].In), "a way that is none")
	}
	for _, guard := range n.Guards {
		sum := 0
		for _, l := range guard {
			lines++
			sum += len(l.Cubes)
			add(len(l.Cubes) > 64, "cubes of a line")
			add(slices.ContainsFunc(l.Cubes, func(c string) bool { return !cube.MatchString(c) }), "no cube of a line")
		}
		add(sum > 512, "cubes of a guard")
	}
	for box, table := range n.Tables {
		sum := 0
		for _, e := range table {
			entries++
			sum += len(e.Cubes)
			add(len(e.Cubes) > 64, "cubes of an entry")
			add(slices.ContainsFunc(e.Cubes, func(c string) bool { return !cube.MatchString(c) }), "no cube of an entry")
			add(!cube.MatchString(e.Write), "no word")
			add(len(e.Name) > 256, "a long name")
			faults = append(faults, tellEnds(n, box, e)...)
		}
		add(sum > 512, "cubes of a table")
	}
	add(lines > 64, "lines")
	add(entries > 256, "entries")
	return faults
}

// tellEnds: what is wrong with the ports of an entry.
func tellEnds(n api.Net, box int, e api.Entry) []string {
	var faults []string
	side := map[bool][]int{}
	for at, p := range n.Ports {
		if p.Box == box {
			side[p.In] = append(side[p.In], at)
		}
	}
	sorted := slices.Clone(e.Ins)
	slices.Sort(sorted)
	if !slices.Equal(slices.Compact(sorted), e.Ins) {
		faults = append(faults, "ins in no order")
	}
	for _, p := range e.Ins {
		if !slices.Contains(side[true], p) {
			faults = append(faults, "ins that are none")
		}
	}
	if len(e.Outs) > 4 {
		faults = append(faults, "more than four outs")
	}
	seen := map[int]int{}
	for _, p := range e.Outs {
		if seen[p]++; seen[p] > 1 {
			faults = append(faults, "an out twice")
		}
		if !slices.Contains(side[false], p) {
			faults = append(faults, "outs that are none")
		}
	}
	return faults
}

func tellValid(n api.Net) api.Errno {
	if len(tellFaults(n)) > 0 {
		return api.ErrNet
	}
	return api.OK
}
