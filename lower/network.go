package lower

import (
	"cmp"
	"slices"
	"strconv"
	"strings"

	"reach/api"
	"reach/expr"
	"reach/field"
	"reach/model"
	"reach/rib"
	"reach/scan"
)

// network is a well-formed configuration with its ports in numbers.
type network struct {
	api.Config
	ports []api.Port
}

func numbered(c api.Config) (network, api.Errno) {
	ports, errno := model.Ports(c)
	return network{c, ports}, errno
}

func (n network) whole() api.Net {
	net := api.Net{Bits: n.bits(), Ports: n.ports}
	count := counter(api.MaxEntries)
	for box, routes := range n.routeTables() {
		table := n.table(box, routes)
		count(len(table))
		net.Tables = append(net.Tables, table)
	}
	for port := range n.ports {
		net.Guards = append(net.Guards, n.guard(port))
	}
	return net
}

func (n network) bits() int {
	sum := 0
	for _, f := range n.Fields {
		sum += f.Bits
	}
	return sum
}

func (n network) routeTables() [][]api.Route { return sure(rib.Tables(n.Config)) }

// table is the table of a box that has these routes. The limit holds for rules and routes together, so one closure takes the entries of both.
func (n network) table(box int, routes []api.Route) []api.Entry {
	var table []api.Entry
	count := counter(api.MaxTable)
	take := func(e api.Entry) {
		count(len(e.Cubes))
		table = append(table, e)
	}
	n.ruleEntries(box, take)
	n.routeEntries(box, routes, take)
	return table
}

func (n network) ruleEntries(box int, take func(api.Entry)) {
	b := n.Boxes[box]
	for _, r := range slices.SortedFunc(slices.Values(b.Rules), byPriority) {
		take(api.Entry{
			Name:  text(b.Name, " rule ", strconv.Itoa(r.Priority)),
			Ins:   n.from(box, r.From),
			Cubes: n.cubes(r.Match),
			Write: sure(field.Word(n.Fields, r.Sets)),
			Outs:  n.numbers(box, r.To),
		})
	}
}

func byPriority(a, b api.Rule) int { return cmp.Compare(b.Priority, a.Priority) }

var kindWords = [...]string{api.RouteOwn: "own", api.RouteStatic: "route", api.RouteComputed: "way"}

func (n network) routeEntries(box int, routes []api.Route, take func(api.Entry)) {
	b := n.Boxes[box]
	for _, r := range routes {
		take(api.Entry{
			Name:  text(b.Name, " ", kindWords[r.Kind], " ", sure(scan.Number(r.Value, true)), "/", strconv.Itoa(r.Len)),
			Ins:   n.numbers(box, b.Ins),
			Cubes: sure(field.Cubes(n.Fields, api.Test{Field: n.Routing, Op: api.OpIs, Form: api.FormPrefix, Lo: r.Value, Len: r.Len})),
			Write: sure(field.Word(n.Fields, nil)),
			Outs:  []int{r.Out},
		})
	}
}

func (n network) guard(port int) []api.Guard {
	var lines []api.Guard
	count := counter(api.MaxTable)
	box := n.ports[port].Box
	for _, l := range n.Boxes[box].Guards {
		if n.number(box, l.Port) == port {
			cubes := n.cubes(l.Match)
			count(len(cubes))
			lines = append(lines, api.Guard{Permit: l.Permit, Cubes: cubes})
		}
	}
	return lines
}

func (n network) cubes(match []api.Node) []string {
	var texts []string
	for _, c := range sure(sure(expr.Space(n.Fields, match)).Expand(api.MaxMatch)) {
		texts = append(texts, c.Text())
	}
	return texts
}

// from are the in-ports that a rule holds for.
func (n network) from(box int, names []string) []int {
	if len(names) == 0 {
		names = n.Boxes[box].Ins
	}
	list := n.numbers(box, names)
	slices.Sort(list)
	return list
}

func (n network) numbers(box int, names []string) []int {
	var list []int
	for _, name := range names {
		list = append(list, n.number(box, name))
	}
	return list
}

func (n network) number(box int, name string) int {
	full := text(n.Boxes[box].Name, ".", name)
	return slices.IndexFunc(n.ports, func(p api.Port) bool { return p.Name == full })
}

// text is what the parts say, one behind the other.
func text(parts ...string) string { return strings.Join(parts, "") }
