package rib_test

// A second telling of chapter 8: prefixes as texts of 0 and 1, ways by going on until nothing gets shorter.

import (
	"fmt"
	"slices"
	"sort"
	"strings"

	"reach/api"
	"reach/model"
)

func tellMayBe(bits int, r api.Route) bool {
	if !slices.Contains([]int{1, 2, 3}, r.Kind) || r.Len < 0 || r.Len > bits || r.Out < 0 || r.Out > 47 || r.Value < 0 || r.Value > 1<<bits-1 {
		return false
	}
	return !strings.Contains(valueText(bits, r.Value)[r.Len:], "1")
}

func valueText(bits, value int) string { return fmt.Sprintf("%0*b", bits, value) }

func prefixText(bits int, r api.Route) string { return valueText(bits, r.Value)[:r.Len] }

func tellRefusal(bits int, routes []api.Route) api.Errno {
	switch {
	case len(routes) > 256:
		return api.ErrLong
	case bits < 1 || bits > 32:
		return api.ErrArg
	}
	for _, r := range routes {
		if !tellMayBe(bits, r) {
			return api.ErrRoute
		}
	}
	return api.OK
}

func tellOrder(bits int, routes []api.Route) ([]api.Route, api.Errno) {
	if errno := tellRefusal(bits, routes); errno != api.OK {
		return nil, errno
	}
	best := map[string]api.Route{}
	for _, r := range routes {
		p := prefixText(bits, r)
		if old, there := best[p]; !there || r.Kind < old.Kind {
			best[p] = r
		}
	}
	var texts []string
	for p := range best {
		texts = append(texts, p)
	}
	sort.Strings(texts)
	sort.SliceStable(texts, func(a, b int) bool { return len(texts[a]) > len(texts[b]) })
	var out []api.Route
	for _, p := range texts {
		out = append(out, best[p])
	}
	return out, api.OK
}

func tellLookup(bits int, routes []api.Route, value int) (int, api.Errno) {
	if errno := tellRefusal(bits, routes); errno != api.OK {
		return 0, errno
	}
	if value < 0 || value > 1<<bits-1 {
		return 0, api.ErrArg
	}
	return tellPlace(bits, routes, value), api.OK
}

func tellPlace(bits int, routes []api.Route, value int) int {
	text := valueText(bits, value)
	for length := bits; length >= 0; length-- {
		for kind := api.RouteOwn; kind <= api.RouteComputed; kind++ {
			for at, r := range routes {
				if r.Kind == kind && r.Len == length && prefixText(bits, r) == text[:length] {
					return at
				}
			}
		}
	}
	return -1
}

// tellOut: where a value goes by a list, or -1.
func tellOut(bits int, routes []api.Route, value int) int {
	if at := tellPlace(bits, routes, value); at >= 0 {
		return routes[at].Out
	}
	return -1
}

// tellFull: whether each value with this prefix has one of the others, too.
func tellFull(p string, others []string) bool {
	longer := false
	for _, q := range others {
		if strings.HasPrefix(p, q) {
			return true
		}
		longer = longer || strings.HasPrefix(q, p)
	}
	return longer && tellFull(p+"0", others) && tellFull(p+"1", others)
}

func tellSlim(bits int, routes []api.Route) ([]api.Route, api.Errno) {
	list, errno := tellOrder(bits, routes)
	if errno != api.OK {
		return nil, errno
	}
	var left []api.Route
	for _, r := range list {
		var longer []string
		for _, s := range list {
			if s.Len > r.Len {
				longer = append(longer, prefixText(bits, s))
			}
		}
		if !tellFull(prefixText(bits, r), longer) {
			left = append(left, r)
		}
	}
	byText := map[string]int{}
	for _, r := range left {
		byText[prefixText(bits, r)] = r.Out
	}
	var out []api.Route
	for _, r := range left {
		if parent, there := tellParentOut(byText, prefixText(bits, r)); !there || parent != r.Out {
			out = append(out, r)
		}
	}
	return out, api.OK
}

func tellParentOut(byText map[string]int, p string) (int, bool) {
	for length := len(p) - 1; length >= 0; length-- {
		if out, there := byText[p[:length]]; there {
			return out, true
		}
	}
	return 0, false
}

func tellShortest(nodes int, edges []api.Edge, dests ...int) ([]int, []int, api.Errno) {
	if errno := tellGraph(nodes, edges, dests); errno != api.OK {
		return nil, nil, errno
	}
	const far = 1 << 40
	length := slices.Repeat([]int{far}, nodes)
	for _, d := range dests {
		length[d] = 0
	}
	for shorter := true; shorter; {
		shorter = false
		for _, e := range edges {
			if way := length[e.To] + e.Cost; way < length[e.From] {
				length[e.From], shorter = way, true
			}
		}
	}
	first := slices.Repeat([]int{-1}, nodes)
	for node := range nodes {
		if length[node] >= far {
			length[node] = -1
		} else if !slices.Contains(dests, node) {
			first[node] = slices.IndexFunc(edges, func(e api.Edge) bool {
				return e.From == node && length[e.To] >= 0 && length[e.To] < far && length[e.To]+e.Cost == length[node]
			})
		}
	}
	return length, first, api.OK
}

func tellGraph(nodes int, edges []api.Edge, dests []int) api.Errno {
	if len(edges) > 48 || len(dests) > 16 {
		return api.ErrLong
	}
	if nodes < 1 || nodes > 16 {
		return api.ErrArg
	}
	for _, e := range edges {
		if min(e.From, e.To, e.Out) < 0 || max(e.From, e.To) >= nodes || e.Cost < 1 || e.Cost > 9999 || e.Out > 47 {
			return api.ErrGraph
		}
	}
	if len(dests) > 0 && (slices.Min(dests) < 0 || slices.Max(dests) >= nodes) {
		return api.ErrArg
	}
	return api.OK
}

// tellTables goes box by box and prefix by prefix, in the order of the text.
func tellTables(c api.Config) ([][]api.Route, api.Errno) {
	if errno, _ := model.Check(c); errno != api.OK {
		return nil, errno
	}
	bits := 0
	for _, f := range c.Fields {
		if f.Name == c.Routing {
			bits = f.Bits
		}
	}
	var tables [][]api.Route
	for box := range c.Boxes {
		if c.Routing == "" {
			tables = append(tables, nil)
			continue
		}
		list := append(tellWritten(c, box), tellComputed(c, box)...)
		if c.Slim {
			list, _ = tellSlim(bits, list)
		} else {
			list, _ = tellOrder(bits, list)
		}
		tables = append(tables, list)
	}
	return tables, api.OK
}

func tellWritten(c api.Config, box int) []api.Route {
	var list []api.Route
	b := c.Boxes[box]
	for _, p := range b.Owns {
		list = append(list, api.Route{Kind: 1, Value: p.Value, Len: p.Len, Out: model.Find(c, b.Name+"."+p.To)})
	}
	for _, p := range b.Routes {
		list = append(list, api.Route{Kind: 2, Value: p.Value, Len: p.Len, Out: model.Find(c, b.Name+"."+p.To)})
	}
	return list
}

func tellComputed(c api.Config, box int) []api.Route {
	edges, _ := model.Edges(c)
	var list []api.Route
	for _, other := range c.Boxes {
		for _, p := range other.Owns {
			_, first, _ := tellShortest(len(c.Boxes), edges, tellOwners(c, p)...)
			r := api.Route{Kind: 3, Value: p.Value, Len: p.Len}
			if first[box] >= 0 {
				r.Out = edges[first[box]].Out
				list = append(list, r)
			}
		}
	}
	return list
}

func tellOwners(c api.Config, p api.Prefix) []int {
	var dests []int
	for at, b := range c.Boxes {
		if slices.ContainsFunc(b.Owns, func(q api.Prefix) bool { return q.Value == p.Value && q.Len == p.Len }) {
			dests = append(dests, at)
		}
	}
	return dests
}
