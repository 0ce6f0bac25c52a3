package run

import (
	"reach/api"
	"reach/lower"
	"reach/model"
)

// network is what questions are put to: a well-formed configuration, as it is written and in numbers.
type network struct {
	config  api.Config
	net     api.Net
	entries []string // their names, by number
	budget  int
}

func numbered(c api.Config, budget int) network {
	n, errno := lower.Lower(c)
	fit(errno)
	var entries []string
	for _, table := range n.Tables {
		for _, e := range table {
			entries = append(entries, e.Name)
		}
	}
	return network{c, n, entries, budget}
}

func (n network) port(name string) int { return model.Find(n.config, name) }

// isOut: whether what comes to this port has left the network.
func (n network) isOut(port int) bool { return !n.net.Ports[port].In && n.net.Ports[port].To < 0 }

func (n network) portNames(ports []int) []string {
	var names []string
	for _, port := range ports {
		names = append(names, n.net.Ports[port].Name)
	}
	return names
}

func (n network) entryNames(entries []int) []string {
	var names []string
	for _, entry := range entries {
		names = append(names, n.entries[entry])
	}
	return names
}

// told is an answer in numbers as a reply with names.
func (n network) told(kind int, a api.Answer) api.Reply {
	return api.Reply{
		Kind: kind, Found: a.Found, Space: a.Space, Witness: a.Witness,
		Ports: n.portNames(a.Ports), Entries: n.entryNames(a.Entries), Final: a.Final,
	}
}
