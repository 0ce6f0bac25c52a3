package space

import (
	"slices"
	"strings"

	"reach/api"
	"reach/tern"
)

const (
	none  = "none"
	plus  = "+"
	minus = "-"
)

// term stands for the headers that are in the cube and in none of the list.
type term struct {
	cube tern.Cube
	less []tern.Cube
}

// formed is the space of these terms, in its form. It gives up if that is too great; it never is greater than what it is made of.
func formed(bits int, raw []term) Space {
	var terms []term
	for _, r := range raw {
		if t, ok := settled(r.cube, r.less); ok {
			terms = append(terms, t)
		}
	}
	return inOrder(bits, topmost(terms))
}

// topmost are those of settled terms that no other one covers. It gives up if they have too many cubes.
func topmost(terms []term) []term {
	top := greatest(terms, term.coveredBy)
	spend(size(top), api.MaxCubes)
	return top
}

// inOrder is the space of terms that have their form but for the order. What covers what does not hang on any order: so only what is left in the end is brought into it.
func inOrder(bits int, terms []term) Space {
	var lines [][]named
	for _, t := range terms {
		lines = append(lines, inLine(t))
	}
	slices.SortFunc(lines, func(a, b []named) int { return slices.CompareFunc(a, b, byText) })
	var ordered []term
	for _, l := range lines {
		var less []tern.Cube
		for _, m := range l[1:] {
			less = append(less, m.cube)
		}
		ordered = append(ordered, term{l[0].cube, less})
	}
	return Space{bits: bits, terms: ordered}
}

// named is a cube with its text, which is made once and not for every two that are compared.
type named struct {
	text string
	cube tern.Cube
}

// inLine is a term's cube and behind it its list, in order.
func inLine(t term) []named {
	line := []named{{t.cube.Text(), t.cube}}
	for _, m := range t.less {
		line = append(line, named{m.Text(), m})
	}
	slices.SortFunc(line[1:], byText)
	return line
}

// settled is the term of a cube less the cubes of the lists, in its form, but for the order of its list, which is new memory; false, if the term is void.
func settled(cube tern.Cube, lists ...[]tern.Cube) (term, bool) {
	var less []tern.Cube
	for _, list := range lists {
		for _, m := range list {
			both, ok := m.Meet(cube)
			if !ok {
				continue
			}
			if both == cube {
				return term{}, false
			}
			less = append(less, both)
		}
	}
	return term{cube, greatest(less, tern.Cube.Within)}, true
}

// allCommon are what each two of the terms have in common, settled.
func allCommon(terms, others []term) []term {
	var common []term
	for _, a := range terms {
		for _, b := range others {
			both, meet := a.cube.Meet(b.cube)
			if !meet {
				continue
			}
			if t, ok := settled(both, a.less, b.less); ok {
				common = append(common, t)
			}
		}
	}
	return common
}

// outside is a settled term with one cube more taken away; false, if it is void then. What is taken away already need not be held against itself again.
func (t term) outside(m tern.Cube) (term, bool) {
	both, ok := m.Meet(t.cube)
	if !ok || slices.ContainsFunc(t.less, both.Within) {
		return t, true
	}
	if both == t.cube {
		return term{}, false
	}
	less := slices.DeleteFunc(slices.Clone(t.less), func(n tern.Cube) bool { return n.Within(both) })
	return term{t.cube, append(less, both)}, true
}

// without are settled terms less one more: what is outside of its cube, and what lies in its list.
func without(terms []term, away term) []term {
	spend(len(terms)*(1+len(away.less)), api.MaxRaw)
	var rest []term
	for _, t := range terms {
		if outside, ok := t.outside(away.cube); ok {
			rest = append(rest, outside)
		}
		for _, n := range away.less {
			both, meet := t.cube.Meet(n)
			if !meet {
				continue
			}
			if inside, ok := settled(both, t.less); ok {
				rest = append(rest, inside)
			}
		}
	}
	return topmost(rest)
}

// coveredBy tells whether the cubes alone show that every header of t is one of u.
func (t term) coveredBy(u term) bool {
	if !t.cube.Within(u.cube) {
		return false
	}
	for _, n := range u.less {
		both, ok := n.Meet(t.cube)
		if ok && !slices.ContainsFunc(t.less, both.Within) {
			return false
		}
	}
	return true
}

// has tells whether a header is in the term.
func (t term) has(header string) bool {
	if !t.cube.Has(header) {
		return false
	}
	for _, m := range t.less {
		if m.Has(header) {
			return false
		}
	}
	return true
}

// greatest are those of the list that are within no other one, of equal ones the first; within is an order, though not a total one. The answer is new memory.
func greatest[T any](list []T, within func(a, b T) bool) []T {
	var top []T
	for _, x := range list {
		if slices.ContainsFunc(top, func(y T) bool { return within(x, y) }) {
			continue
		}
		top = slices.DeleteFunc(top, func(y T) bool { return within(y, x) })
		top = append(top, x)
	}
	return top
}

// byText is the order of cubes: that of their texts as bytes.
func byText(a, b named) int {
	return strings.Compare(a.text, b.text)
}

// size is the number of cubes of the terms, those of the lists too.
func size(terms []term) int {
	cubes := 0
	for _, t := range terms {
		cubes += 1 + len(t.less)
	}
	return cubes
}

// width is the number of a cube's bits.
func width(c tern.Cube) int { return len(c.Text()) }

// allBefore are the cubes of the headers that r writes into those of the list, where there are any.
func allBefore(list []tern.Cube, r tern.Cube) []tern.Cube {
	origins := make([]tern.Cube, 0, len(list))
	for _, m := range list {
		if origin, ok := m.Before(r); ok {
			origins = append(origins, origin)
		}
	}
	return origins
}

// readTerms reads the terms of a text as they are written; false, if it is no text of terms of that width.
func readTerms(bits int, text string) ([]term, bool) {
	var terms []term
	for part := range strings.SplitSeq(text, plus) {
		cubes, ok := readCubes(bits, part)
		if !ok {
			return nil, false
		}
		terms = append(terms, term{cubes[0], cubes[1:]})
	}
	return terms, true
}

// readCubes reads the cubes of one term, at least one.
func readCubes(bits int, text string) ([]tern.Cube, bool) {
	var cubes []tern.Cube
	for part := range strings.SplitSeq(text, minus) {
		c, errno := tern.Parse(part)
		if errno != api.OK || len(part) != bits {
			return nil, false
		}
		cubes = append(cubes, c)
	}
	return cubes, true
}
