package xfer_test

// P11.7: what the spaces say by single packets.

import (
	"slices"
	"testing"

	"reach/api"
	"reach/space"
	"reach/step"
	"reach/tern"
	"reach/xfer"
)

// packet: what Next tells of a header at an in-port.
type packet struct {
	header string
	entry  int
	states []api.State
}

// at: the header that the packet has at a port, or "".
func (p packet) at(port int) string {
	for _, s := range p.states {
		if s.Port == port {
			return s.Header
		}
	}
	return ""
}

// packets: all headers at an in-port.
func packets(t *testing.T, n api.Net, port int) []packet {
	t.Helper()
	var list []packet
	for h := range tern.All(n.Bits).Members() {
		entry, states, errno := step.Next(n, api.State{Port: port, Header: h})
		if errno != api.OK {
			t.Fatalf("Next: %d", errno)
		}
		list = append(list, packet{h, entry, states})
	}
	return list
}

func checkHas(t *testing.T, n api.Net, call string, s space.Space, header string, want bool) {
	t.Helper()
	if s.Has(header) != want {
		t.Fatalf("P11.7: %s of %.3000v: %q has %s: %v", call, n, s.Text(), header, !want)
	}
}

func checkPackets(t *testing.T, n api.Net, f *xfer.Transfer, port int) {
	t.Helper()
	hits, _ := f.Hits(port)
	parts, _ := f.Parts(port)
	gone, errno := f.Gone(port)
	for _, p := range packets(t, n, port) {
		met := 0
		for _, h := range hits {
			checkHas(t, n, "Hits", h.Space, p.header, p.entry == h.Entry)
			if h.Space.Has(p.header) {
				met++
			}
		}
		if met > 1 || (met == 1) != (p.entry >= 0) {
			t.Fatalf("P11.7: %s is in %d spaces of Hits(%d) of %.3000v; the entry is %d", p.header, met, port, n, p.entry)
		}
		outs := 0
		for _, q := range parts {
			comes := p.entry == q.Entry && p.at(q.Out) != ""
			checkHas(t, n, "Parts", q.Space, p.header, comes)
			if comes {
				outs++
			}
			if comes && q.To >= 0 && p.at(q.To) != p.at(q.Out) {
				t.Fatalf("P11.3: no link to %d behind %d: %v", q.To, q.Out, p.states)
			}
		}
		if errno == api.OK {
			checkHas(t, n, "Gone", gone, p.header, len(p.states) == 0)
		}
		if (outs == 0) != (len(p.states) == 0) {
			t.Fatalf("P11.7: %s at %d of %.3000v has the states %v, and %d parts", p.header, port, n, p.states, outs)
		}
	}
}

// checkForward: the images of s at an in-port are just what the packets of s become; those that have no header are not told.
func checkForward(t *testing.T, n api.Net, f *xfer.Transfer, port int, s space.Space) {
	t.Helper()
	images, errno := f.Forward(port, s)
	if errno != api.OK {
		return
	}
	all, _ := f.Parts(port)
	for _, q := range all {
		var come []string
		for _, p := range packets(t, n, port) {
			if p.entry == q.Entry && s.Has(p.header) && p.at(q.Out) != "" {
				come = append(come, p.at(q.Out))
			}
		}
		var image xfer.Image
		for _, i := range images {
			if i.Entry == q.Entry && i.Out == q.Out {
				image = i
			}
		}
		if (image.Space.Bits() != 0) != (len(come) > 0) {
			t.Fatalf("P11.5: Forward %d %q of %.3000v: entry %d, out %d: %q; the headers %v come", port, s.Text(), n, q.Entry, q.Out, image.Space.Text(), come)
		}
		for h := range tern.All(n.Bits).Members() {
			checkHas(t, n, "Forward", image.Space, h, slices.Contains(come, h))
		}
	}
}

// checkInverse: the images of s at an out-port are just the packets that become one of s.
func checkInverse(t *testing.T, n api.Net, f *xfer.Transfer, out int, s space.Space) {
	t.Helper()
	images, errno := f.Inverse(out, s)
	if errno != api.OK {
		return
	}
	told := 0
	for port, at := range n.Ports {
		if !at.In || at.Box != n.Ports[out].Box {
			continue
		}
		all, _ := f.Parts(port)
		for _, q := range all {
			if q.Out != out {
				continue
			}
			var image xfer.Image
			for _, i := range images {
				if i.In == port && i.Entry == q.Entry && i.Out == out {
					image = i
					told++
				}
			}
			some := false
			for _, p := range packets(t, n, port) {
				comes := p.entry == q.Entry && s.Has(p.at(out))
				some = some || comes
				checkHas(t, n, "Inverse", image.Space, p.header, comes)
			}
			if some != (image.Space.Bits() != 0) {
				t.Fatalf("P11.6: Inverse %d %q of %.3000v: in %d, entry %d: %q", out, s.Text(), n, port, q.Entry, image.Space.Text())
			}
		}
	}
	if told != len(images) {
		t.Fatalf("P11.6: Inverse %d of %.3000v: %v", out, n, images)
	}
}

func TestPacketsOfMixedNetworks(t *testing.T) {
	s := source(31)
	for range 250 {
		k := s.small()
		n := s.net(k)
		f := made(t, n)
		for port, at := range n.Ports {
			if at.In {
				checkPackets(t, n, f, port)
				checkForward(t, n, f, port, s.space(k))
			} else {
				checkInverse(t, n, f, port, s.space(k))
			}
		}
	}
}

func TestPacketsOfTheExample(t *testing.T) {
	n := exampleNet()
	f := made(t, n)
	for _, text := range []string{"none", "xx", "0x", "x1", "1x-11", "00+11", "xx-0x-1x", "01"} {
		for port := range 2 {
			checkPackets(t, n, f, port)
			checkForward(t, n, f, port, read(t, 2, text))
			checkInverse(t, n, f, port+2, read(t, 2, text))
		}
	}
}
