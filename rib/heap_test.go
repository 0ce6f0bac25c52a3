package rib

import (
	"math/rand"
	"slices"
	"testing"
)

type ranks map[string]int

func (r ranks) before(a, b string) bool { return r[a] < r[b] }

func checkTree[T comparable](t *testing.T, h *heap[T]) {
	t.Helper()
	for at := 1; at < len(h.held); at++ {
		if h.ahead(h.held[at], h.held[(at-1)/2]) {
			t.Fatalf("what stands at %d of %v is ahead of what stands above it", at, h.held)
		}
	}
}

// The heap holds things of any kind, by any order.
func TestHeapGivesTheFirst(t *testing.T) {
	mixed := rand.New(rand.NewSource(8))
	for n := range 200 {
		var words []string
		order := ranks{}
		h := heap[string]{ahead: order.before}
		for at := range n % 40 {
			word := string(rune('a' + at))
			order[word] = mixed.Intn(20)
			words = append(words, word)
			h.put(word)
			checkTree(t, &h)
		}
		slices.SortFunc(words, func(a, b string) int { return order[a] - order[b] })
		for _, word := range words {
			got := h.take()
			if order[got] != order[word] {
				t.Fatalf("%q comes out, with %d; want one with %d", got, order[got], order[word])
			}
			checkTree(t, &h)
		}
		if !h.empty() {
			t.Fatalf("%v is left", h.held)
		}
	}
}

func TestHeapHastens(t *testing.T) {
	mixed := rand.New(rand.NewSource(9))
	for range 200 {
		order := ranks{}
		h := heap[string]{ahead: order.before}
		for at := range 20 {
			word := string(rune('a' + at))
			order[word] = 10 + mixed.Intn(20)
			h.put(word)
		}
		word := h.held[mixed.Intn(20)]
		order[word] = 0
		h.hasten(word)
		checkTree(t, &h)
		if got := h.take(); got != word {
			t.Fatalf("%q comes out, want %q", got, word)
		}
	}
}
