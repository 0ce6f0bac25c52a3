package rib

import "slices"

// heap gives back what it holds one by one: each time one that none of the others is ahead of.
type heap[T comparable] struct {
	held  []T // a tree: what stands at 2n+1 and 2n+2 is not ahead of what stands at n
	ahead func(a, b T) bool
}

func (h *heap[T]) empty() bool { return len(h.held) == 0 }

func (h *heap[T]) put(thing T) {
	h.held = append(h.held, thing)
	h.rise(len(h.held) - 1)
}

// hasten is due when a thing has come ahead of others while it is held: the heap cannot see that.
func (h *heap[T]) hasten(thing T) { h.rise(slices.Index(h.held, thing)) }

// take is asked only of a heap that is not empty.
func (h *heap[T]) take() T {
	last := len(h.held) - 1
	h.swap(0, last)
	first := h.held[last]
	h.held = h.held[:last]
	h.sink()
	return first
}

func (h *heap[T]) swap(a, b int) { h.held[a], h.held[b] = h.held[b], h.held[a] }

func (h *heap[T]) rise(at int) {
	for at > 0 {
		above := (at - 1) / 2
		if !h.ahead(h.held[at], h.held[above]) {
			return
		}
		h.swap(at, above)
		at = above
	}
}

func (h *heap[T]) sink() {
	for at := 0; ; {
		next := at
		for below := 2*at + 1; below <= 2*at+2 && below < len(h.held); below++ {
			if h.ahead(h.held[below], h.held[next]) {
				next = below
			}
		}
		if next == at {
			return
		}
		h.swap(at, next)
		at = next
	}
}
