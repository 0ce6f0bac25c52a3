package rib

import (
	"reach/api"
	"reach/model"
)

type prefix struct{ value, length int }

// written are the routes that the boxes own or write, box by box.
func written(c api.Config) [][]api.Route {
	numbers := portNumbers(c)
	tables := make([][]api.Route, len(c.Boxes))
	for at, b := range c.Boxes {
		for _, p := range b.Owns {
			tables[at] = append(tables[at], api.Route{Kind: api.RouteOwn, Value: p.Value, Len: p.Len, Out: numbers[b.Name+"."+p.To]})
		}
		for _, p := range b.Routes {
			tables[at] = append(tables[at], api.Route{Kind: api.RouteStatic, Value: p.Value, Len: p.Len, Out: numbers[b.Name+"."+p.To]})
		}
	}
	return tables
}

func portNumbers(c api.Config) map[string]int {
	ports, _ := model.Ports(c)
	numbers := make(map[string]int, len(ports))
	for number, p := range ports {
		numbers[p.Name] = number
	}
	return numbers
}

// addComputed adds the ways to what others own. The map's order is not seen: a box gets at most one such route a prefix, and all are laid behind it.
func addComputed(c api.Config, tables [][]api.Route) {
	edges, _ := model.Edges(c)
	for p, boxes := range owners(c) {
		_, first, _ := Shortest(len(c.Boxes), edges, boxes...)
		for at, edge := range first {
			if edge >= 0 {
				tables[at] = append(tables[at], api.Route{Kind: api.RouteComputed, Value: p.value, Len: p.length, Out: edges[edge].Out})
			}
		}
	}
}

// owners are the places of the boxes that own a prefix.
func owners(c api.Config) map[prefix][]int {
	boxes := map[prefix][]int{}
	for at, b := range c.Boxes {
		for _, p := range b.Owns {
			own := prefix{p.Value, p.Len}
			boxes[own] = append(boxes[own], at)
		}
	}
	return boxes
}

func lay(c api.Config, tables [][]api.Route) {
	lays := Order
	if c.Slim {
		lays = Slim
	}
	bits := routingBits(c)
	for at := range tables {
		tables[at], _ = lays(bits, tables[at])
	}
}

func routingBits(c api.Config) int {
	for _, f := range c.Fields {
		if f.Name == c.Routing {
			return f.Bits
		}
	}
	return 0
}
