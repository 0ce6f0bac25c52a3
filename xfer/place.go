package xfer

import (
	"reach/api"
	"reach/space"
	"reach/tern"
)

// place is what is kept of a port.
type place struct {
	in      bool
	to      int         // the in-port behind its link, or -1
	guard   space.Space // what it lets by
	effects             // of an in-port
}

// effects is what a table does at an in-port.
type effects struct {
	hits  []hit
	taken []tern.Cube // what its entries have between them
}

// hit is what an entry does at an in-port with the headers that it is applied to.
type hit struct {
	entry int
	write tern.Cube
	space space.Space
	exits []exit
}

// exit is an out-port, and those of the headers that come out there.
type exit struct {
	port  int
	space space.Space
}

// after is what comes out of a space at an exit.
func (h hit) after(e exit, s space.Space) (space.Space, api.Errno) {
	met, errno := s.Meet(e.space)
	if errno != api.OK {
		return space.Space{}, errno
	}
	return met.After(h.write, api.MaxSplit)
}

// before is what of an out-port's space the entry has sent there, as it was; false, if there is no header.
func (h hit) before(out int, s space.Space) (space.Space, bool, api.Errno) {
	for _, e := range h.exits {
		if e.port != out {
			continue
		}
		var r refusal
		in := r.take(e.space.Meet(r.take(s.Before(h.write))))
		if r.errno != api.OK {
			return space.Space{}, false, r.errno
		}
		cubes, errno := in.Expand(api.MaxSplit)
		return in, len(cubes) > 0, errno
	}
	return space.Space{}, false, api.OK
}

// gone is what comes out nowhere: stopped by the guard, without an entry that fits, or by one that lets it out at no port.
func (t *Transfer) gone(at place) (space.Space, api.Errno) {
	var r refusal
	all := r.take(space.Of(tern.All(t.bits)))
	unmet := r.take(space.Of(tern.All(t.bits), at.taken...))
	lost := r.take(r.take(all.Minus(at.guard)).Join(r.take(at.guard.Meet(unmet))))
	for _, h := range at.hits {
		if r.errno != api.OK {
			break
		}
		lost = r.take(lost.Join(r.take(h.space.Minus(r.take(t.out(h))))))
	}
	return lost, r.errno
}

// out is the space of all headers that the entry would get out of one of its out-ports.
func (t *Transfer) out(h hit) (space.Space, api.Errno) {
	var r refusal
	by := space.None(t.bits)
	for _, e := range h.exits {
		by = r.take(by.Join(r.take(t.ports[e.port].guard.Before(h.write))))
	}
	return by, r.errno
}
