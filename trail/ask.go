package trail

import (
	"slices"

	"reach/api"
	"reach/flow"
	"reach/lower"
	"reach/space"
	"reach/tern"
)

// hit is a flow that counts, its Ports the first cut by which it does.
type hit struct {
	flow   api.Flow
	origin space.Space
}

// check looks at what a question is given, in the order of its errors, and reads the pattern. What speaks against the hops and the budget, which come behind that, the walk says.
func check(n api.Net, where, pattern string, ports ...int) (*Pattern, api.Errno) {
	if len(where) > api.MaxSpaceText || len(pattern) > api.MaxPattern {
		return nil, api.ErrLong
	}
	if errno := lower.Valid(n); errno != api.OK {
		return nil, errno
	}
	for _, port := range ports {
		if port < 0 || port >= len(n.Ports) {
			return nil, api.ErrStart
		}
	}
	if _, errno := space.Parse(n.Bits, where); errno != api.OK {
		return nil, errno
	}
	p, errno, _ := Compile(pattern)
	return p, errno
}

// ask tells of all flows that count: counts is asked of each cut, with its last port and the names of all its ports.
func ask(n api.Net, from int, where string, hops, budget int, counts func(last int, names []string) bool) (api.Answer, api.Errno) {
	w, errno := flow.New(n, from, where, hops, budget, false)
	if errno != api.OK {
		return api.Answer{}, errno
	}
	all := space.None(n.Bits)
	var hits []hit
	for _, f := range w.All() {
		end := firstCut(n, f, counts)
		if end == 0 {
			continue
		}
		f.Ports = f.Ports[:end]
		// What a walk tells is a space.
		origin, _ := space.Parse(n.Bits, f.Origin)
		if all, errno = all.Join(origin); errno != api.OK {
			return api.Answer{}, errno
		}
		hits = append(hits, hit{f, origin})
	}
	if len(hits) == 0 {
		return api.Answer{Start: from, Space: all.Text()}, api.OK
	}
	return answer(from, all, hits)
}

// firstCut is how many ports the shortest cut of a flow has by which it counts; 0, if there is none.
func firstCut(n api.Net, f api.Flow, counts func(last int, names []string) bool) int {
	var names []string
	for _, port := range f.Ports {
		names = append(names, n.Ports[port].Name)
	}
	for end := len(names) - f.New + 1; end <= len(names); end++ {
		if counts(f.Ports[end-1], names[:end]) {
			return end
		}
	}
	return 0
}

// answer tells of the space of all hits. There is a least header: flows are live.
func answer(from int, all space.Space, hits []hit) (api.Answer, api.Errno) {
	witness, _, errno := all.Least(api.MaxSplit)
	if errno != api.OK {
		return api.Answer{}, errno
	}
	first := slices.IndexFunc(hits, func(h hit) bool { return h.origin.Has(witness) })
	f := hits[first].flow
	return api.Answer{
		Found: true, Start: from, Space: all.Text(), Witness: witness,
		Ports: f.Ports, Entries: f.Entries, Final: written(witness, f.Write),
	}, api.OK
}

// written is what a rewriting word makes of a header. Both are known to be cubes.
func written(header, word string) string {
	h, _ := tern.Parse(header)
	w, _ := tern.Parse(word)
	return h.Write(w).Text()
}
