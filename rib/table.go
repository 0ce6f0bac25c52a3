package rib

import (
	"cmp"

	"reach/api"
)

// refusal is why Order, Lookup and Slim take no such routes; OK, if they do.
func refusal(bits int, routes []api.Route) api.Errno {
	if len(routes) > api.MaxEntries {
		return api.ErrLong
	}
	if bits < 1 || bits > api.MaxFieldBits {
		return api.ErrArg
	}
	for _, r := range routes {
		if !mayBe(bits, r) {
			return api.ErrRoute
		}
	}
	return api.OK
}

func mayBe(bits int, r api.Route) bool {
	if r.Kind < api.RouteOwn || r.Kind > api.RouteComputed || r.Len < 0 || r.Len > bits {
		return false
	}
	return fits(bits, r.Value) && r.Value%size(bits, r) == 0 && r.Out >= 0 && r.Out < api.MaxPorts
}

func fits(bits, value int) bool { return value >= 0 && value < 1<<bits }

// size is the number of values that a route has.
func size(bits int, r api.Route) int { return 1 << (bits - r.Len) }

func has(bits int, r api.Route, value int) bool { return value-value%size(bits, r) == r.Value }

// table is a list of routes as it is given; its routes are told by their places.
type table []api.Route

// ahead is the order in which routes are looked at; the places settle it between routes of one prefix and one kind.
func (t table) ahead(a, b int) bool {
	r, s := t[a], t[b]
	return cmp.Or(cmp.Compare(s.Len, r.Len), cmp.Compare(r.Value, s.Value), cmp.Compare(r.Kind, s.Kind), cmp.Compare(a, b)) < 0
}

// first is the place of the first route that has the value, or -1.
func (t table) first(bits, value int) int {
	first := -1
	for at, r := range t {
		if has(bits, r, value) && (first < 0 || t.ahead(at, first)) {
			first = at
		}
	}
	return first
}

// laid are the routes in the order in which they are looked at. Those of one prefix follow one another, so only the first of them stands.
func laid(routes []api.Route) []api.Route {
	rest := heap[int]{ahead: table(routes).ahead}
	for at := range routes {
		rest.put(at)
	}
	var list []api.Route
	for !rest.empty() {
		r := routes[rest.take()]
		if last := len(list) - 1; last < 0 || list[last].Len != r.Len || list[last].Value != r.Value {
			list = append(list, r)
		}
	}
	return list
}

// parents are the places of the routes' parents in a list that is laid, or -1. There the first one behind a route that has its value is the longest that covers it.
func parents(bits int, list []api.Route) []int {
	places := make([]int, len(list))
	for at, r := range list {
		places[at] = -1
		for behind := at + 1; behind < len(list); behind++ {
			if has(bits, list[behind], r.Value) {
				places[at] = behind
				break
			}
		}
	}
	return places
}

// met are the routes that some value meets. No two routes of one parent have a value in common, so their sizes tell what they leave to it.
func met(bits int, list []api.Route) []api.Route {
	left := make([]int, len(list))
	for at, r := range list {
		left[at] = size(bits, r)
	}
	for at, parent := range parents(bits, list) {
		if parent >= 0 {
			left[parent] -= size(bits, list[at])
		}
	}
	var rest []api.Route
	for at, r := range list {
		if left[at] > 0 {
			rest = append(rest, r)
		}
	}
	return rest
}

// needed are the routes that send elsewhere than their parents do.
func needed(bits int, list []api.Route) []api.Route {
	var rest []api.Route
	for at, parent := range parents(bits, list) {
		if parent < 0 || list[parent].Out != list[at].Out {
			rest = append(rest, list[at])
		}
	}
	return rest
}
