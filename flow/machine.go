package flow

import (
	"slices"

	"reach/api"
	"reach/space"
	"reach/tern"
	"reach/xfer"
)

// machine makes the live flows, one behind the other: they are its worklist, too.
type machine struct {
	parts [][]part // by port; an out-port has none
	hops  int
	room  int // what is left of the budget
	stop  bool
	flows legs
}

// part is one way on from an in-port, as xfer tells it.
type part struct {
	entry int
	ports []int
	write tern.Cube
	space space.Space
}

// partsOf reads what the transfer functions tell of each port once, and not flow by flow.
func partsOf(n api.Net, t *xfer.Transfer) [][]part {
	lists := make([][]part, len(n.Ports))
	for p := range lists {
		// An out-port is refused: there is no way on from it.
		told, _ := t.Parts(p)
		for _, q := range told {
			lists[p] = append(lists[p], part{q.Entry, portsAt(q.Out, q.To), sure(tern.Parse(q.Write)), q.Space})
		}
	}
	return lists
}

// portsAt are a port and the one behind its link, if there is one.
func portsAt(port, to int) []int {
	if to < 0 {
		return []int{port}
	}
	return []int{port, to}
}

// run makes all live flows, from the first one on.
func (m *machine) run(made leg) {
	taken := -1
	var ways []part
	goto look

take:
	taken++
	if taken == len(m.flows) {
		return
	}
	ways = m.waysOn(taken)

next:
	if len(ways) == 0 {
		goto take
	}
	made = m.goOn(taken, ways[0])
	ways = ways[1:]

look:
	if !isLive(made) {
		goto next
	}
	m.put(made)
	goto next
}

// waysOn are the parts by which a flow goes on; none, if it does not.
func (m *machine) waysOn(i int) []part {
	ports := m.flows.ports(i)
	if len(m.flows.entries(i)) == m.hops || m.stop && isDouble(ports) {
		return nil
	}
	return m.parts[ports[len(ports)-1]]
}

// isDouble tells whether a port stands twice in the list.
func isDouble(ports []int) bool {
	for i, p := range ports {
		if slices.Contains(ports[:i], p) {
			return true
		}
	}
	return false
}

// goOn is what goes on from a flow by a part.
func (m *machine) goOn(i int, by part) leg {
	from := m.flows[i]
	before := sure(by.space.Before(from.write))
	return leg{parent: i, entry: by.entry, ports: by.ports, origin: sure(from.origin.Meet(before)), write: from.write.Write(by.write)}
}

func isLive(l leg) bool {
	return len(sure(l.origin.Expand(api.MaxSplit))) > 0
}

// put lays a live flow behind the others, as far as the budget goes.
func (m *machine) put(l leg) {
	m.room -= l.origin.Size()
	if m.room < 0 {
		panic(refusal{api.ErrBudget})
	}
	m.flows = append(m.flows, l)
}
