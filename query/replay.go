package query

import (
	"slices"

	"reach/api"
	"reach/lower"
	"reach/space"
	"reach/step"
)

// Replay plays an answer's witness along its path, packet by packet.
func Replay(n api.Net, a api.Answer) api.Errno {
	if len(a.Space) > api.MaxSpaceText || len(a.Ports) > 2*api.MaxHops+2 || len(a.Entries) > 2*api.MaxHops+2 {
		return api.ErrLong
	}
	if errno := lower.Valid(n); errno != api.OK {
		return errno
	}
	if !a.Found || !has(n.Bits, a.Space, a.Witness) || !bearsOut(n, a) {
		return api.ErrReplay
	}
	return api.OK
}

// has tells whether the text is a space with that header.
func has(bits int, text, header string) bool {
	s, errno := space.Parse(bits, text)
	return errno == api.OK && s.Has(header)
}

// bearsOut tells whether the witness takes the path of the answer.
func bearsOut(n api.Net, a api.Answer) bool {
	s := api.State{Port: a.Start, Header: a.Witness}
	final, _, errno := step.Follow(n, s, a.Ports)
	return errno == api.OK && final == a.Final && slices.Equal(entriesOf(n, s, a.Ports), a.Entries)
}

// entriesOf are the entries that are applied to a packet along ports that it follows.
func entriesOf(n api.Net, s api.State, ports []int) []int {
	var entries []int
	for _, port := range ports[1:] {
		if n.Ports[s.Port].In {
			entry, states, _ := step.Next(n, s)
			entries = append(entries, entry)
			// All copies of a packet are written alike.
			s.Header = states[0].Header
		}
		s.Port = port
	}
	return entries
}
