package xfer

import (
	"slices"
	"sync"

	"reach/api"
	"reach/space"
	"reach/tern"
)

// network is what New works on: a valid network with its cubes read and the spaces of its guards.
type network struct {
	bits   int
	ports  []api.Port
	tables [][]entry     // by box
	guards []space.Space // by port
}

type entry struct {
	number    int
	ins, outs []int
	cubes     []tern.Cube // none is within another one
	write     tern.Cube
}

func read(n api.Net) (network, api.Errno) {
	net := network{bits: n.Bits, ports: n.Ports}
	var r refusal
	for _, lines := range n.Guards {
		net.guards = append(net.guards, r.take(guardSpace(n.Bits, lines)))
	}
	number := 0
	for _, table := range n.Tables {
		var entries []entry
		for _, e := range table {
			entries = append(entries, entry{number, e.Ins, e.Outs, widest(e.Cubes), cubeOf(e.Write)})
			number++
		}
		net.tables = append(net.tables, entries)
	}
	return net, r.errno
}

// guardSpace is the space of the headers that a guard lets by.
func guardSpace(bits int, lines []api.Guard) (space.Space, api.Errno) {
	if len(lines) == 0 {
		return space.Of(tern.All(bits))
	}
	var r refusal
	var ahead []tern.Cube
	by := space.None(bits)
	for _, l := range lines {
		cubes := widest(l.Cubes)
		if l.Permit {
			// No term of one line covers one of another line: what is within an earlier line's cube is void, and a later line's term lacks all of this one's cubes. So by only grows.
			by = r.take(by.Join(r.take(outside(bits, cubes, ahead))))
		}
		ahead = append(ahead, cubes...)
	}
	return by, r.errno
}

// outside is the space of these cubes, each less all those ahead. None of the cubes may be within another one: then none of the terms covers another one, and no part of them is greater than the whole.
func outside(bits int, cubes, ahead []tern.Cube) (space.Space, api.Errno) {
	switch len(cubes) {
	case 0:
		return space.None(bits), api.OK
	case 1:
		return space.Of(cubes[0], ahead...)
	}
	var r refusal
	half := len(cubes) / 2
	first := r.take(outside(bits, cubes[:half], ahead))
	second := r.take(outside(bits, cubes[half:], ahead))
	both := r.take(first.Join(second))
	return both, r.errno
}

// effects makes what the tables do, by port. The in-ports have nothing to do with one another: each has a goroutine of its own, which writes its own element of what is made.
func (n network) effects() ([]effects, api.Errno) {
	type outcome struct {
		effects effects
		errno   api.Errno
	}
	made := make([]outcome, len(n.ports))
	var work sync.WaitGroup
	for p, at := range n.ports {
		if !at.In {
			continue
		}
		work.Add(1)
		go func() {
			defer work.Done()
			made[p].effects, made[p].errno = n.effectsAt(p)
		}()
	}
	work.Wait()
	var list []effects
	for _, m := range made {
		if m.errno != api.OK {
			return nil, m.errno
		}
		list = append(list, m.effects)
	}
	return list, api.OK
}

// effectsAt makes what the table of its box does at an in-port.
func (n network) effectsAt(port int) (effects, api.Errno) {
	var made effects
	for _, e := range n.tables[n.ports[port].Box] {
		if !slices.Contains(e.ins, port) {
			continue
		}
		h, errno := n.hit(port, e, made.taken)
		if errno != api.OK {
			return effects{}, errno
		}
		made.hits = append(made.hits, h)
		made.taken = append(made.taken, e.cubes...)
	}
	return made, api.OK
}

// hit makes what an entry does at an in-port, behind entries that have the cubes ahead.
func (n network) hit(port int, e entry, ahead []tern.Cube) (hit, api.Errno) {
	var r refusal
	got := r.take(outside(n.bits, e.cubes, ahead))
	h := hit{entry: e.number, write: e.write, space: r.take(n.guards[port].Meet(got))}
	for _, q := range e.outs {
		by := r.take(n.guards[q].Before(e.write))
		h.exits = append(h.exits, exit{q, r.take(h.space.Meet(by))})
	}
	return h, r.errno
}

// widest are the cubes of the texts that are within no other one, of equal ones the first: the others add nothing, neither where they stand nor where they are taken away.
func widest(texts []string) []tern.Cube {
	var wide []tern.Cube
	for _, text := range texts {
		c := cubeOf(text)
		if slices.ContainsFunc(wide, c.Within) {
			continue
		}
		wide = slices.DeleteFunc(wide, func(d tern.Cube) bool { return d.Within(c) })
		wide = append(wide, c)
	}
	return wide
}

// cubeOf needs no error: the network has been looked at.
func cubeOf(text string) tern.Cube {
	c, _ := tern.Parse(text)
	return c
}

// refusal keeps the first error of calls that are written one inside another. Beside it they answer the zero Space, and so does whatever is made of that.
type refusal struct{ errno api.Errno }

func (r *refusal) take(s space.Space, errno api.Errno) space.Space {
	if r.errno == api.OK {
		r.errno = errno
	}
	return s
}
