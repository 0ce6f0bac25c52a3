package space_test

// A second telling of chapter 2, on lists of texts, to hold the spaces against. A term is a list of cubes' texts, its p first.

import (
	"slices"
	"strings"

	"reach/api"
	"reach/tern"
)

type told struct {
	bits  int
	terms [][]string // in their form and order
}

func cubeOf(text string) tern.Cube {
	c, _ := tern.Parse(text)
	return c
}

func meetTexts(a, b string) (string, bool) {
	c, ok := cubeOf(a).Meet(cubeOf(b))
	return c.Text(), ok
}

func withinTexts(a, b string) bool { return cubeOf(a).Within(cubeOf(b)) }

// formTerm: the form of a term, or nil, if it is void.
func formTerm(raw []string) []string {
	var met []string
	for _, m := range raw[1:] {
		if both, ok := meetTexts(raw[0], m); ok {
			met = append(met, both)
		}
	}
	slices.Sort(met)
	met = slices.Compact(met)
	term := []string{raw[0]}
	for _, m := range met {
		if m == raw[0] {
			return nil
		}
		if !slices.ContainsFunc(met, func(n string) bool { return n != m && withinTexts(m, n) }) {
			term = append(term, m)
		}
	}
	return term
}

// covered: whether t is covered by u.
func covered(t, u []string) bool {
	if !withinTexts(t[0], u[0]) {
		return false
	}
	for _, n := range u[1:] {
		both, ok := meetTexts(n, t[0])
		if ok && !slices.ContainsFunc(t[1:], func(m string) bool { return withinTexts(both, m) }) {
			return false
		}
	}
	return true
}

// form: the form of a space of these terms.
func form(bits int, raw [][]string) told {
	var terms [][]string
	for _, r := range raw {
		if t := formTerm(r); t != nil {
			terms = append(terms, t)
		}
	}
	slices.SortFunc(terms, slices.Compare[[]string])
	terms = slices.CompactFunc(terms, slices.Equal[[]string])
	var left [][]string
	for i, t := range terms {
		other := false
		for j, u := range terms {
			other = other || i != j && covered(t, u)
		}
		if !other {
			left = append(left, t)
		}
	}
	return told{bits, left}
}

// checked: what is told, or ErrBudget, if it is too great.
func checked(s told) (told, api.Errno) {
	if s.size() > api.MaxCubes {
		return told{}, api.ErrBudget
	}
	return s, api.OK
}

func (s told) text() string {
	var terms []string
	for _, t := range s.terms {
		terms = append(terms, strings.Join(t, "-"))
	}
	if len(terms) == 0 {
		return "none"
	}
	return strings.Join(terms, "+")
}

func (s told) size() int { return len(slices.Concat(s.terms...)) }

func (s told) has(header string) bool {
	return slices.ContainsFunc(s.terms, func(t []string) bool {
		for i, c := range t {
			if withinTexts(header, c) != (i == 0) {
				return false
			}
		}
		return true
	})
}

// raw: the terms of a text as they are written.
func raw(text string) [][]string {
	var terms [][]string
	if text != "none" {
		for _, t := range strings.Split(text, "+") {
			terms = append(terms, strings.Split(t, "-"))
		}
	}
	return terms
}

func (s told) join(t told) (told, api.Errno) {
	return checked(form(s.bits, slices.Concat(s.terms, t.terms)))
}

func (s told) meet(t told) (told, api.Errno) {
	if len(s.terms)*len(t.terms) > api.MaxRaw {
		return told{}, api.ErrBudget
	}
	var terms [][]string
	for _, a := range s.terms {
		for _, b := range t.terms {
			if both, ok := meetTexts(a[0], b[0]); ok {
				terms = append(terms, slices.Concat([]string{both}, a[1:], b[1:]))
			}
		}
	}
	return checked(form(s.bits, terms))
}

func (s told) minus(t told) (told, api.Errno) {
	r := s
	for _, u := range t.terms {
		if len(r.terms)*len(u) > api.MaxRaw {
			return told{}, api.ErrBudget
		}
		var terms [][]string
		for _, a := range r.terms {
			terms = append(terms, slices.Concat(a, u[:1]))
			for _, n := range u[1:] {
				if both, ok := meetTexts(a[0], n); ok {
					terms = append(terms, slices.Concat([]string{both}, a[1:]))
				}
			}
		}
		var e api.Errno
		if r, e = checked(form(s.bits, terms)); e != api.OK {
			return told{}, e
		}
	}
	return r, api.OK
}

func (s told) before(word string) told {
	var terms [][]string
	for _, t := range s.terms {
		var turned []string
		for i, c := range t {
			b, ok := cubeOf(c).Before(cubeOf(word))
			if !ok && i == 0 {
				break
			}
			if ok {
				turned = append(turned, b.Text())
			}
		}
		if turned != nil {
			terms = append(terms, turned)
		}
	}
	return form(s.bits, terms)
}

func (s told) after(word string, limit int) (told, api.Errno) {
	cubes, e := s.expand(limit)
	if e != api.OK {
		return told{}, e
	}
	var terms [][]string
	for _, c := range cubes {
		terms = append(terms, []string{cubeOf(c).Write(cubeOf(word)).Text()})
	}
	return checked(form(s.bits, terms))
}

// expand makes each list whole ahead of the next cube that is taken away.
func (s told) expand(limit int) ([]string, api.Errno) {
	var done []string
	for _, t := range s.terms {
		list := t[:1]
		if len(done)+len(list) > limit {
			return nil, api.ErrBudget
		}
		for _, m := range t[1:] {
			var next []string
			for _, c := range list {
				for _, p := range cubeOf(c).Split(cubeOf(m)) {
					next = append(next, p.Text())
				}
			}
			list = next
			if len(done)+len(list) > limit {
				return nil, api.ErrBudget
			}
		}
		done = slices.Concat(done, list)
	}
	return done, api.OK
}

func (s told) least(limit int) (string, bool, api.Errno) {
	cubes, e := s.expand(limit)
	if e != api.OK || len(cubes) == 0 {
		return "", false, e
	}
	for i, c := range cubes {
		cubes[i] = strings.ReplaceAll(c, "x", "0")
	}
	return slices.Min(cubes), true, api.OK
}

func (s told) within(t told, limit int) (bool, api.Errno) {
	rest, e := s.minus(t)
	if e != api.OK {
		return false, e
	}
	cubes, e := rest.expand(limit)
	return e == api.OK && len(cubes) == 0, e
}

// headers: all headers of a small width, the least first.
func headers(bits int) []string {
	return slices.Collect(tern.All(bits).Members())
}

// source: numbers that are always the same ones.
type source uint32

func (s *source) below(n int) int {
	*s = *s*1664525 + 1013904223
	return int(*s>>12) % n
}

// cube: a text of a width; of digits each place has one.
func (s *source) cube(bits int, digits string) string {
	b := make([]byte, bits)
	for i := range b {
		b[i] = digits[s.below(len(digits))]
	}
	return string(b)
}

// text: a space as it may be written, of up to so many terms, each with up to so many cubes taken away.
func (s *source) text(bits, terms, less int, digits string) string {
	var list []string
	for range s.below(terms + 1) {
		t := s.cube(bits, digits)
		for range s.below(less + 1) {
			t += "-" + s.cube(bits, digits)
		}
		list = append(list, t)
	}
	if list == nil {
		return "none"
	}
	return strings.Join(list, "+")
}
