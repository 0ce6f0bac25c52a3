package run_test

// P0.9: networks of routes alone, where no port at which a prefix is owned is linked.

import (
	"fmt"
	"slices"
	"strings"
	"testing"

	"reach/api"
	"reach/conf"
	"reach/run"
)

// read: the network of a text.
func read(t *testing.T, text string) api.Config {
	t.Helper()
	c, errno, line := conf.Parse(text)
	if errno != api.OK {
		t.Fatalf("Parse: %d in line %d of\n%s", errno, line, text)
	}
	return c
}

const routed = 3 // the bits of the field that is routed on

// routes: a network without rules, guards and written routes; the prefixes are owned at the ports o and p, the others may be linked.
func (s *source) routes(t *testing.T) api.Config {
	t.Helper()
	text := fmt.Sprintf("header f:1 dst:%d\nrouting dst%s\n", routed, s.oneOf("", " slim"))
	boxes := 1 + s.below(5)
	var links string
	for n := range boxes {
		text += fmt.Sprintf("box B%d\nin a b\nout o p q r s\n", n)
		seen := map[[2]int]int{}
		for range s.below(4) {
			length := s.below(routed + 1)
			value := s.below(1<<routed) >> (routed - length) << (routed - length)
			if seen[[2]int{value, length}]++; seen[[2]int{value, length}] == 1 {
				text += fmt.Sprintf("own %d/%d to %s\n", value, length, s.oneOf("o", "p"))
			}
		}
		for _, out := range []string{"q", "r", "s"} {
			if s.below(3) > 0 {
				links += fmt.Sprintf("link B%d.%s -> B%d.%s cost %d\n", n, out, s.below(boxes), s.oneOf("a", "b"), 1+s.below(4))
			}
		}
	}
	return read(t, text+links)
}

// reached: the boxes to which there is a way of links, this one too.
func reached(c api.Config, box string) []string {
	list := []string{box}
	for at := 0; at < len(list); at++ {
		for _, k := range c.Links {
			to, _, _ := strings.Cut(k.To, ".")
			if from, _, _ := strings.Cut(k.From, "."); from == list[at] && !slices.Contains(list, to) {
				list = append(list, to)
			}
		}
	}
	return list
}

// owners: the ports at which the longest prefix of the value is owned by one of these boxes.
func owners(c api.Config, boxes []string, value int) []string {
	var ports []string
	longest := -1
	for _, b := range c.Boxes {
		for _, p := range b.Owns {
			free := routed - p.Len
			if !slices.Contains(boxes, b.Name) || value>>free != p.Value>>free || p.Len < longest {
				continue
			}
			if p.Len > longest {
				ports = nil
			}
			longest = p.Len
			ports = append(ports, b.Name+"."+p.To)
		}
	}
	return ports
}

func TestRoutesLeadThere(t *testing.T) {
	s := source(64)
	owned, nowhere := 0, 0
	for range 150 {
		c := s.routes(t)
		ins, _ := portsOf(c)
		from := s.oneOf(ins...)
		box, _, _ := strings.Cut(from, ".")
		query := ""
		for value := range 1 << routed {
			query += fmt.Sprintf("trace %s set dst = %d hops %d\n", from, value, len(c.Boxes))
		}
		r := run.Run(printed(t, c), query)
		if r.Kind != api.ResultReplies {
			t.Fatalf("%+v of %s", r, printed(t, c))
		}
		for value, reply := range r.Replies {
			what := fmt.Sprintf("P0.9: %d at %s of\n%s", value, from, printed(t, c))
			for _, line := range reply.Lines {
				ports := strings.Fields(line)
				if sorted := slices.Sorted(slices.Values(ports)); len(slices.Compact(sorted)) < len(ports) {
					t.Fatalf("%s: a port comes twice: %s", what, line)
				}
			}
			goals := owners(c, reached(c, box), value)
			if len(goals) == 0 {
				nowhere++
				continue
			}
			owned++
			if !reply.Found || !slices.Contains(goals, reply.Ports[len(reply.Ports)-1]) {
				t.Fatalf("%s: %q; owned at %q", what, reply.Ports, goals)
			}
		}
		check(t, "P0.9: no port comes twice", rendered(printed(t, c), fmt.Sprintln("loop", from, "where any hops 48")), "loop: none\n  space none\n")
	}
	if owned < 300 || nowhere < 100 {
		t.Errorf("the trial shows less than it should: %d, %d", owned, nowhere)
	}
}
