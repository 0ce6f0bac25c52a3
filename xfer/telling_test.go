package xfer_test

// A second telling of chapter 11: the terms of guards and entries, as they are written there, as lists of texts that are given their form whole, whatever their number; then the calls of chapter 2, one by one.

import (
	"slices"
	"strconv"
	"strings"
	"testing"

	"reach/api"
	"reach/space"
	"reach/tern"
	"reach/xfer"
)

func cubeOf(text string) tern.Cube {
	c, _ := tern.Parse(text)
	return c
}

func within(a, b string) bool { return cubeOf(a).Within(cubeOf(b)) }

// formTerm: the form of a term, its p first, or nil, if it is void.
func formTerm(raw []string) []string {
	var met []string
	for _, m := range raw[1:] {
		if both, ok := cubeOf(raw[0]).Meet(cubeOf(m)); ok {
			met = append(met, both.Text())
		}
	}
	slices.Sort(met)
	met = slices.Compact(met)
	term := []string{raw[0]}
	for _, m := range met {
		if m == raw[0] {
			return nil
		}
		if !slices.ContainsFunc(met, func(n string) bool { return n != m && within(m, n) }) {
			term = append(term, m)
		}
	}
	return term
}

func covered(t, u []string) bool {
	if !within(t[0], u[0]) {
		return false
	}
	for _, n := range u[1:] {
		both, ok := cubeOf(n).Meet(cubeOf(t[0]))
		if ok && !slices.ContainsFunc(t[1:], func(m string) bool { return within(both.Text(), m) }) {
			return false
		}
	}
	return true
}

// whole: the space of all these terms at once; ErrBudget, if its form is too great.
func whole(bits int, raw [][]string) (space.Space, api.Errno) {
	var terms [][]string
	for _, r := range raw {
		if t := formTerm(r); t != nil {
			terms = append(terms, t)
		}
	}
	slices.SortFunc(terms, slices.Compare[[]string])
	terms = slices.CompactFunc(terms, slices.Equal[[]string])
	var texts []string
	size := 0
	for i, t := range terms {
		other := false
		for j, u := range terms {
			other = other || i != j && covered(t, u)
		}
		if !other {
			texts = append(texts, strings.Join(t, "-"))
			size += len(t)
		}
	}
	switch {
	case size > api.MaxCubes:
		return space.Space{}, api.ErrBudget
	case size == 0:
		return space.None(bits), api.OK
	}
	return space.Parse(bits, strings.Join(texts, "+"))
}

// teller: what a network's transfer functions are to tell. The first refusal of a call is its errno.
type teller struct {
	n     api.Net
	errno api.Errno
}

func (y *teller) sure(s space.Space, errno api.Errno) space.Space {
	if y.errno == api.OK {
		y.errno = errno
	}
	return s
}

func (y *teller) guard(port int) space.Space {
	lines := y.n.Guards[port]
	if len(lines) == 0 {
		return y.sure(whole(y.n.Bits, [][]string{{x(y.n.Bits)}}))
	}
	var raw [][]string
	for at, l := range lines {
		var ahead []string
		for _, early := range lines[:at] {
			ahead = append(ahead, early.Cubes...)
		}
		for _, c := range l.Cubes {
			if l.Permit {
				raw = append(raw, append([]string{c}, ahead...))
			}
		}
	}
	return y.sure(whole(y.n.Bits, raw))
}

// table: the entries that hold at an in-port, with their numbers.
func (y *teller) table(port int) (entries []api.Entry, numbers []int) {
	number := 0
	for box, table := range y.n.Tables {
		for _, e := range table {
			if box == y.n.Ports[port].Box && slices.Contains(e.Ins, port) {
				entries, numbers = append(entries, e), append(numbers, number)
			}
			number++
		}
	}
	return entries, numbers
}

func cubesOf(entries []api.Entry) []string {
	var all []string
	for _, e := range entries {
		all = append(all, e.Cubes...)
	}
	return all
}

func (y *teller) hits(port int) []xfer.Part {
	var parts []xfer.Part
	entries, numbers := y.table(port)
	for at, e := range entries {
		var raw [][]string
		for _, c := range e.Cubes {
			raw = append(raw, append([]string{c}, cubesOf(entries[:at])...))
		}
		got := y.sure(whole(y.n.Bits, raw))
		parts = append(parts, xfer.Part{In: port, Entry: numbers[at], Out: -1, To: -1, Write: e.Write, Space: y.sure(y.guard(port).Meet(got))})
	}
	return parts
}

func (y *teller) parts(port int) []xfer.Part {
	var parts []xfer.Part
	entries, _ := y.table(port)
	for at, h := range y.hits(port) {
		for _, q := range entries[at].Outs {
			h.Out, h.To = q, y.n.Ports[q].To
			part := h
			part.Space = y.sure(h.Space.Meet(y.sure(y.guard(q).Before(cubeOf(h.Write)))))
			parts = append(parts, part)
		}
	}
	return parts
}

func (y *teller) gone(port int) space.Space {
	entries, _ := y.table(port)
	all := y.sure(whole(y.n.Bits, [][]string{{x(y.n.Bits)}}))
	none := y.sure(whole(y.n.Bits, [][]string{append([]string{x(y.n.Bits)}, cubesOf(entries)...)}))
	d := y.sure(y.sure(all.Minus(y.guard(port))).Join(y.sure(y.guard(port).Meet(none))))
	for at, h := range y.hits(port) {
		u := space.None(y.n.Bits)
		for _, q := range entries[at].Outs {
			u = y.sure(u.Join(y.sure(y.guard(q).Before(cubeOf(h.Write)))))
		}
		d = y.sure(d.Join(y.sure(h.Space.Minus(u))))
	}
	return d
}

func (y *teller) some(s space.Space) bool {
	cubes, errno := s.Expand(api.MaxSplit)
	y.sure(s, errno)
	return len(cubes) > 0
}

func (y *teller) forward(port int, s space.Space) []xfer.Image {
	var images []xfer.Image
	for _, p := range y.parts(port) {
		m := y.sure(s.Meet(p.Space))
		if y.some(m) {
			images = append(images, xfer.Image{In: port, Entry: p.Entry, Out: p.Out, Space: y.sure(m.After(cubeOf(p.Write), api.MaxSplit))})
		}
	}
	return images
}

func (y *teller) inverse(out int, s space.Space) []xfer.Image {
	var images []xfer.Image
	for port, at := range y.n.Ports {
		if !at.In || at.Box != y.n.Ports[out].Box {
			continue
		}
		for _, p := range y.parts(port) {
			if p.Out != out {
				continue
			}
			m := y.sure(p.Space.Meet(y.sure(s.Before(cubeOf(p.Write)))))
			if y.some(m) {
				images = append(images, xfer.Image{In: port, Entry: p.Entry, Out: out, Space: m})
			}
		}
	}
	return images
}

// tellNew: what New is to say.
func tellNew(n api.Net) api.Errno {
	y := teller{n: n}
	for port, at := range n.Ports {
		y.guard(port)
		if at.In {
			y.parts(port)
		}
	}
	return y.errno
}

// partsText, imagesText: lists as texts.
func partsText(list []xfer.Part) string {
	var texts []string
	for _, p := range list {
		texts = append(texts, numbersText(p.In, p.Entry, p.Out, p.To)+p.Write+" "+p.Space.Text())
	}
	return strings.Join(texts, "; ")
}

func imagesText(list []xfer.Image) string {
	var texts []string
	for _, i := range list {
		texts = append(texts, numbersText(i.In, i.Entry, i.Out)+i.Space.Text())
	}
	return strings.Join(texts, "; ")
}

func numbersText(numbers ...int) string {
	text := ""
	for _, n := range numbers {
		text += strconv.Itoa(n) + " "
	}
	return text
}

// outcome: an answer as a text, or its error, beside which there is to be nothing.
func outcome(text, zero string, errno api.Errno) string {
	if errno == api.OK {
		return text
	}
	if text != zero {
		return "W3: " + text + " beside " + strconv.Itoa(int(errno))
	}
	return "error " + strconv.Itoa(int(errno))
}

// told: what is told, or the first refusal of what it is made by.
func (y *teller) told(text string) string {
	errno := y.errno
	y.errno = api.OK
	if errno != api.OK {
		return "error " + strconv.Itoa(int(errno))
	}
	return text
}

func checkText(t *testing.T, n api.Net, call, got, want string) {
	t.Helper()
	if got != want {
		t.Fatalf("%s of %.3000v:\n%.3000s\nwant\n%.3000s", call, n, got, want)
	}
}

// checkAll: every call at every port, with some spaces, as it is told. How often Gone, Forward and Inverse were refused.
func checkAll(t *testing.T, n api.Net, f *xfer.Transfer, spaces []space.Space) (refused [3]int) {
	t.Helper()
	y := teller{n: n}
	count := func(which int, text string) string {
		if strings.HasPrefix(text, "error") {
			refused[which]++
		}
		return text
	}
	for port, at := range n.Ports {
		for _, s := range spaces {
			if at.In {
				l, errno := f.Forward(port, s)
				checkText(t, n, "P11.5: Forward "+numbersText(port)+s.Text(), count(1, outcome(imagesText(l), "", errno)), y.told(imagesText(y.forward(port, s))))
			} else {
				l, errno := f.Inverse(port, s)
				checkText(t, n, "P11.6: Inverse "+numbersText(port)+s.Text(), count(2, outcome(imagesText(l), "", errno)), y.told(imagesText(y.inverse(port, s))))
			}
		}
		if at.In {
			l, errno := f.Hits(port)
			checkText(t, n, "P11.2: Hits "+numbersText(port), outcome(partsText(l), "", errno), y.told(partsText(y.hits(port))))
			l, errno = f.Parts(port)
			checkText(t, n, "P11.3: Parts "+numbersText(port), outcome(partsText(l), "", errno), y.told(partsText(y.parts(port))))
			d, errno := f.Gone(port)
			checkText(t, n, "P11.4: Gone "+numbersText(port), count(0, outcome(d.Text(), "none", errno)), y.told(y.gone(port).Text()))
		}
	}
	return refused
}

func TestMixedNetworksAsTheyAreTold(t *testing.T) {
	s := source(21)
	made, refused := 0, 0
	var inner [3]int
	for _, k := range kinds() {
		for range k.tries {
			n := s.net(k)
			want := tellNew(n)
			f, errno := xfer.New(n)
			if errno != want || (f == nil) != (errno != api.OK) {
				t.Fatalf("P11.1: New(%.3000v): %v, %d; want %d", n, f, errno, want)
			}
			if errno != api.OK {
				refused++
				continue
			}
			made++
			var spaces []space.Space
			for range 3 {
				if one := s.space(k); one.Bits() == k.bits {
					spaces = append(spaces, one)
				}
			}
			for which, times := range checkAll(t, n, f, spaces) {
				inner[which] += times
			}
		}
	}
	if made < 200 || refused < 20 || min(inner[0], inner[1], inner[2]) == 0 {
		t.Errorf("too few of a kind: %d made, %d refused; Gone, Forward, Inverse refused %v times", made, refused, inner)
	}
}
