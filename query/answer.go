package query

import (
	"slices"

	"reach/api"
	"reach/flow"
	"reach/space"
	"reach/tern"
)

// share is what a question takes of a flow's origin.
type share struct {
	flow  api.Flow
	space space.Space
}

// ask puts a question to all flows of a walk.
func ask(bits, start int, w *flow.Walk, q question) (api.Answer, api.Errno) {
	all := space.None(bits)
	var shares []share
	for _, f := range w.All() {
		if !q.looksAt(f) {
			continue
		}
		taken, errno := take(bits, f, q)
		if errno != api.OK {
			return api.Answer{}, errno
		}
		if all, errno = all.Join(taken); errno != api.OK {
			return api.Answer{}, errno
		}
		shares = append(shares, share{f, taken})
	}
	return answer(start, all, func(witness string) api.Flow {
		first := slices.IndexFunc(shares, func(s share) bool { return s.space.Has(witness) })
		return cut(shares[first].flow, q.isEnd)
	})
}

func take(bits int, f api.Flow, q question) (space.Space, api.Errno) {
	origin, errno := space.Parse(bits, f.Origin)
	if errno != api.OK {
		return space.Space{}, errno
	}
	return q.takes(f, origin)
}

// answer tells of a space; path is asked for the flow that its least header takes, if it has one.
func answer(start int, s space.Space, path func(witness string) api.Flow) (api.Answer, api.Errno) {
	witness, found, errno := s.Least(api.MaxSplit)
	if errno != api.OK {
		return api.Answer{}, errno
	}
	if !found {
		return absent(start), api.OK
	}
	f := path(witness)
	return api.Answer{
		Found: true, Start: start, Space: s.Text(), Witness: witness,
		Ports: f.Ports, Entries: f.Entries, Final: written(witness, f.Write),
	}, api.OK
}

// absent is the answer where no header is found, whatever the terms of the space.
func absent(start int) api.Answer {
	return api.Answer{Start: start, Space: "none"}
}

// written is what a rewriting word makes of a header. Both are known to be cubes.
func written(header, word string) string {
	h, _ := tern.Parse(header)
	w, _ := tern.Parse(word)
	return h.Write(w).Text()
}

// cut ends a flow's path behind the first one of its new ports at which isEnd says so; it is handed the ports up to there.
func cut(f api.Flow, isEnd func(ports []int) bool) api.Flow {
	for end := len(f.Ports) - f.New + 1; end <= len(f.Ports); end++ {
		if isEnd(f.Ports[:end]) {
			f.Ports = f.Ports[:end]
			break
		}
	}
	return f
}
