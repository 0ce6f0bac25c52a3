package flow

import (
	"reach/api"
	"reach/space"
	"reach/tern"
)

// leg is what is kept of a flow: what it has beside the one that it goes on from. A flow is put together of its legs when it is asked for.
type leg struct {
	parent int   // the number of the flow that it goes on from, or -1
	entry  int   // that was applied, if it goes on from one
	ports  []int // the new ones
	origin space.Space
	write  tern.Cube
}

// legs are flows by their numbers.
type legs []leg

// flow is the flow of that number, in new memory.
func (l legs) flow(i int) api.Flow {
	last := l[i]
	return api.Flow{Ports: l.ports(i), Entries: l.entries(i), New: len(last.ports), Parent: last.parent, Origin: last.origin.Text(), Write: last.write.Text()}
}

// ports are all ports of a flow, a new list.
func (l legs) ports(i int) []int {
	if i < 0 {
		return nil
	}
	return append(l.ports(l[i].parent), l[i].ports...)
}

// entries are all entries of a flow, a new list.
func (l legs) entries(i int) []int {
	if l[i].parent < 0 {
		return nil
	}
	return append(l.entries(l[i].parent), l[i].entry)
}
