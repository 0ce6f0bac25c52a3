package trail_test

// A second telling of P14.4 and P14.5: from the flows of a walk as plain data, with the pattern as a regular expression over the network's ports.

import (
	"fmt"
	"slices"
	"strings"
	"testing"

	"reach/api"
	"reach/flow"
	"reach/space"
	"reach/tern"
	"reach/trail"
)

// asking: what Find and Avoid are asked. Find has no port to come to.
type asking struct {
	n              api.Net
	from, to       int
	where, pattern string
	hops, budget   int
}

func (a asking) String() string {
	return fmt.Sprintf("from %d to %d where %.300s along %q, hops %d, budget %d in %.3000s", a.from, a.to, a.where, a.pattern, a.hops, a.budget, fmt.Sprint(a.n))
}

func (a asking) find() (api.Answer, api.Errno) {
	return trail.Find(a.n, a.from, a.where, a.pattern, a.hops, a.budget)
}

func (a asking) avoid() (api.Answer, api.Errno) {
	return trail.Avoid(a.n, a.from, a.to, a.where, a.pattern, a.hops, a.budget)
}

func (a asking) space(text string) space.Space {
	s, _ := space.Parse(a.n.Bits, text)
	return s
}

// meant: whether ports, one behind the other, are a path of the pattern.
func (a asking) meant(t *testing.T) func(ports []int) bool {
	t.Helper()
	var names alphabet
	for _, p := range a.n.Ports {
		names = append(names, p.Name)
	}
	e := names.expression(t, a.pattern)
	return func(ports []int) bool {
		var list []string
		for _, p := range ports {
			list = append(list, names[p])
		}
		return names.means(e, list)
	}
}

// found and avoided: which paths Find and Avoid speak of.
func (a asking) found(t *testing.T) func(ports []int) bool { return a.meant(t) }

func (a asking) avoided(t *testing.T) func(ports []int) bool {
	meant := a.meant(t)
	return func(ports []int) bool { return ports[len(ports)-1] == a.to && !meant(ports) }
}

// tell: what is to be answered, if the paths that are spoken of are these. All arguments are as they should be.
func (a asking) tell(is func(ports []int) bool) string {
	w, errno := flow.New(a.n, a.from, a.where, a.hops, a.budget, false)
	if errno != api.OK {
		return fmt.Sprint("error ", errno)
	}
	all := space.None(a.n.Bits)
	var flows []api.Flow
	for _, f := range w.All() {
		old := len(f.Ports) - f.New
		at := slices.IndexFunc(f.Ports[old:], func(int) bool { old++; return is(f.Ports[:old]) })
		if at < 0 {
			continue
		}
		f.Ports = f.Ports[:old]
		flows = append(flows, f)
		if all, errno = a.space(f.Origin).Join(all); errno != api.OK {
			return fmt.Sprint("error ", errno)
		}
	}
	least, errno := leastOf(all)
	if errno != api.OK {
		return fmt.Sprint("error ", errno)
	}
	for _, f := range flows {
		if a.space(f.Origin).Has(least) {
			return fmt.Sprint(all.Text(), " from ", a.from, ": ", least, " ", f.Ports, f.Entries, " ", cubeOf(least).Write(cubeOf(f.Write)).Text())
		}
	}
	return fmt.Sprint("none from ", a.from)
}

// leastOf: by the plain cubes.
func leastOf(s space.Space) (string, api.Errno) {
	cubes, errno := s.Expand(api.MaxSplit)
	var headers []string
	for _, c := range cubes {
		headers = append(headers, strings.ReplaceAll(c.Text(), "x", "0"))
	}
	if len(headers) == 0 {
		return "", errno
	}
	return slices.Min(headers), errno
}

// along: a pattern of the network's names, such as means some paths more often than not.
func (s *source) along(n api.Net) string {
	names := append(boxNames(), "none", "none.p0")
	for _, p := range n.Ports {
		names = append(names, p.Name)
	}
	leaf := s.leaves(names...)
	switch s.below(5) {
	case 0:
		return ".* " + leaf() + " .*"
	case 1:
		return ".* " + leaf()
	case 2:
		return leaf() + "+ " + leaf() + "* .*"
	case 3:
		return leaf() + " (" + leaf() + " | " + leaf() + ")*"
	}
	return s.legal(5, leaf)
}

// asking: something to ask in some network.
func (s *source) asking(k kind) asking {
	a := asking{n: s.net(k), from: s.below(k.ports), to: s.below(k.ports), where: s.from(k), hops: s.below(8), budget: 1 + s.below(100)}
	a.pattern = s.along(a.n)
	switch s.below(4) {
	case 0:
		a.budget = api.MaxBudget
	case 1:
		a.hops = s.below(api.MaxHops + 1)
	}
	return a
}

// check: whether both are answered as they are told; met counts what is answered.
func (a asking) check(t *testing.T, met map[string]int) {
	t.Helper()
	for what, got := range map[string]string{"P14.4": text(a.find()), "P14.5": text(a.avoid())} {
		want := a.tell(a.found(t))
		if what == "P14.5" {
			want = a.tell(a.avoided(t))
		}
		if got != want {
			t.Fatalf("%s: %v:\n%s\nwant\n%s", what, a, got, want)
		}
		switch {
		case strings.HasPrefix(got, "error"):
			met[what+" "+got]++
		case strings.HasPrefix(got, "none"):
			met[what+" none"]++
		default:
			met[what]++
		}
	}
}

func TestQuestionsAsTheyAreTold(t *testing.T) {
	s := source(21)
	met := map[string]int{}
	for _, k := range kinds() {
		for range k.tries * 2 {
			a := s.asking(k)
			if _, errno := space.Parse(a.n.Bits, a.where); errno == api.OK {
				a.check(t, met)
			}
		}
	}
	for range 2000 {
		s.asking(s.small()).check(t, met)
	}
	for _, what := range []string{"P14.4", "P14.5"} {
		if met[what] < 400 || met[what+" none"] < 400 || met[what+" error 3"] < 100 {
			t.Errorf("the trial shows less than it should of %s: %v", what, met)
		}
	}
}

// The example's network, with many patterns, from everywhere to everywhere.
func TestTheExampleAsItIsTold(t *testing.T) {
	patterns := []string{"", ".", ". .", ".*", "R1", "R1+", "R2 .*", ".* R2", ".* R1 .*", "R1.a .* R2.d", ".* R2.b .*", "(R1 | R2.a)*", "!R2.b*", "R1* R2 R2", ".* R1.a .* R1.a .*", "(. .)*", ". (. .)*", "R1.c R2.a? .*"}
	met := map[string]int{}
	for from := range 5 {
		for to := range 5 {
			for hops := range 6 {
				for k, pattern := range patterns {
					where := []string{"none", "xx", "0x", "x1", "1x-11", "00+11", "xx-0x-1x", "xx-00"}[(k+from+hops)%8]
					asking{exampleNet(), from, to, where, pattern, hops, 12}.check(t, met)
				}
			}
		}
	}
	if met["P14.4"] < 300 || met["P14.5"] < 300 {
		t.Errorf("the trial shows less than it should: %v", met)
	}
}

// The witness is the least of all headers that are in the space.
func TestTheWitnessIsTheLeast(t *testing.T) {
	s := source(22)
	found := 0
	for range 600 {
		a := s.asking(s.small())
		for _, ask := range []func() (api.Answer, api.Errno){a.find, a.avoid} {
			answer, errno := ask()
			if errno != api.OK || !answer.Found {
				continue
			}
			found++
			for h := range tern.All(a.n.Bits).Members() {
				if a.space(answer.Space).Has(h) {
					check(t, fmt.Sprint("P14.4: ", a), answer.Witness, h)
					break
				}
			}
		}
	}
	if found < 200 {
		t.Errorf("the trial shows less than it should: %d", found)
	}
}
