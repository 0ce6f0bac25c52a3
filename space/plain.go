package space

import (
	"iter"

	"reach/api"
	"reach/tern"
)

// overrun is what the work panics with where it passes a budget.
type overrun struct{}

// spend gives up, if more is used than may be.
func spend(used, budget int) {
	if used > budget {
		panic(overrun{})
	}
}

// give answers what the work makes; ErrBudget, if it gave up. Any other panic would be a fault of the program and goes on.
func give[T any](work func() T) (answer T, errno api.Errno) {
	defer func() {
		switch why := recover(); why {
		case nil:
		case overrun{}:
			errno = api.ErrBudget
		default:
			panic(why)
		}
	}()
	return work(), api.OK
}

// plain goes through the plain cubes, one term behind the other. It gives up as soon as there would be more than limit of them at one time, were each list made whole ahead of the next cube that is taken away.
func (s Space) plain(limit int) iter.Seq[tern.Cube] {
	return func(yield func(tern.Cube) bool) {
		finished := 0
		for _, t := range s.inForm().terms {
			w := walk{limit - finished, make([]int, 1+len(t.less)), yield}
			if !w.down(t.cube, t.less) {
				return
			}
			finished += w.met[0]
		}
	}
}

// walk is the way through one term. It goes down from each cube to the end ahead of the next, so that the first cubes are handed on without the rest being made.
type walk struct {
	room  int
	met   []int // for each number of cubes that are still to be taken away: the pieces there have been
	yield func(tern.Cube) bool
}

// down hands on what is left of c less the list; false, if no more is asked for.
func (w walk) down(c tern.Cube, less []tern.Cube) bool {
	w.met[len(less)]++
	spend(w.met[len(less)], w.room)
	if len(less) == 0 {
		return w.yield(c)
	}
	for _, piece := range c.Split(less[0]) {
		if !w.down(piece, less[1:]) {
			return false
		}
	}
	return true
}
