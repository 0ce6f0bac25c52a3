package delta

import (
	"reach/api"
	"reach/query"
	"reach/space"
)

// question is what both networks are asked.
type question struct {
	from, to     int
	where        string
	hops, budget int
}

// finding is which headers come there in one network, or why that is not told.
type finding struct {
	space space.Space
	errno api.Errno
}

// walk asks a network in a goroutine of its own. It has ended when the channel is closed.
func (q question) walk(n api.Net) <-chan finding {
	found := make(chan finding)
	go func() {
		defer close(found)
		found <- q.find(n)
	}()
	return found
}

func (q question) find(n api.Net) finding {
	answer, errno := q.ask(n)
	if errno != api.OK {
		return finding{errno: errno}
	}
	s, errno := space.Parse(n.Bits, answer.Space)
	return finding{s, errno}
}

func (q question) ask(n api.Net) (api.Answer, api.Errno) {
	return query.Reach(n, q.from, q.to, q.where, q.hops, q.budget)
}

// only tells of the headers that come there in the network n and not in the other one.
func (q question) only(n api.Net, here, there space.Space) (api.Answer, api.Errno) {
	rest, errno := here.Minus(there)
	if errno != api.OK {
		return api.Answer{}, errno
	}
	witness, found, errno := rest.Least(api.MaxSplit)
	if errno != api.OK {
		return api.Answer{}, errno
	}
	if !found {
		return api.Answer{Start: q.from, Space: space.None(n.Bits).Text()}, api.OK
	}
	q.where = witness
	answer, errno := q.ask(n)
	if errno != api.OK {
		return api.Answer{}, errno
	}
	// All else is that of the walk with the witness alone.
	answer.Space = rest.Text()
	return answer, api.OK
}
