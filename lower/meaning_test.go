package lower_test

// P9.6: the numbers say what the text says, header by header.

import (
	"fmt"
	"slices"
	"testing"

	"reach/api"
	"reach/expr"
	"reach/field"
	"reach/lower"
	"reach/rib"
)

// headers: all of that width, or some of them where there are many.
func (s *source) headers(bits int) []string {
	var list []string
	if bits <= 8 {
		for value := range 1 << bits {
			list = append(list, fmt.Sprintf("%0*b", bits, value))
		}
		return list
	}
	for range 8 {
		text := make([]byte, bits)
		for at := range text {
			text[at] = "01"[s.below(2)]
		}
		list = append(list, string(text))
	}
	return list
}

// near: headers within and just beside the cubes.
func (s *source) near(cubes []string) []string {
	var list []string
	for _, c := range pick(s, cubes, 2) {
		text := []byte(c)
		for at := range text {
			if text[at] == 'x' {
				text[at] = "01"[s.below(2)]
			}
		}
		list = append(list, string(text))
		text[s.below(len(text))] ^= 1
		list = append(list, string(text))
	}
	return list
}

func inOne(cubes []string, header string) bool {
	return slices.ContainsFunc(cubes, func(c string) bool {
		for at := range c {
			if c[at] != 'x' && c[at] != header[at] {
				return false
			}
		}
		return len(c) == len(header)
	})
}

func checkMatch(t *testing.T, what string, c api.Config, match []api.Node, cubes []string, headers []string) {
	t.Helper()
	for _, h := range headers {
		holds, errno := expr.Eval(c.Fields, match, h)
		if errno != api.OK || holds != inOne(cubes, h) {
			t.Fatalf("P9.6: %s: the match holds for %s: %v, %d; the cubes are %v", what, h, holds, errno, cubes)
		}
	}
}

// checkWritten: the fields of Sets have their values, all others are as they were.
func checkWritten(t *testing.T, what string, c api.Config, sets []api.Set, word string, headers []string) {
	t.Helper()
	for _, h := range headers {
		written := []byte(h)
		for at := range word {
			if word[at] != 'x' {
				written[at] = word[at]
			}
		}
		want, _ := field.Unpack(c.Fields, h)
		for _, s := range sets {
			want[slices.IndexFunc(c.Fields, func(f api.Field) bool { return f.Name == s.Field })] = s.Value
		}
		if got, errno := field.Unpack(c.Fields, string(written)); errno != api.OK || !slices.Equal(got, want) {
			t.Fatalf("P9.6: %s: the word %s makes %v of %s, want %v", what, word, got, h, want)
		}
	}
}

func checkRoute(t *testing.T, what string, c api.Config, r api.Route, cubes []string, headers []string) {
	t.Helper()
	place := slices.IndexFunc(c.Fields, func(f api.Field) bool { return f.Name == c.Routing })
	size := 1 << (c.Fields[place].Bits - r.Len)
	for _, h := range headers {
		values, _ := field.Unpack(c.Fields, h)
		if has := values[place] >= r.Value && values[place] < r.Value+size; has != inOne(cubes, h) {
			t.Fatalf("P9.6: %s: the prefix has %s: %v; the cubes are %v", what, h, has, cubes)
		}
	}
}

func checkMeaning(t *testing.T, s *source, c api.Config, n api.Net) (entries int) {
	t.Helper()
	headers := s.headers(n.Bits)
	routes, _ := rib.Tables(c)
	for box, b := range c.Boxes {
		rules := slices.Clone(b.Rules)
		slices.SortFunc(rules, func(a, b api.Rule) int { return b.Priority - a.Priority })
		if len(n.Tables[box]) != len(rules)+len(routes[box]) {
			t.Fatalf("P9.1: %d entries of %d rules and %d routes", len(n.Tables[box]), len(rules), len(routes[box]))
		}
		for at, e := range n.Tables[box] {
			entries++
			some := append(headers, s.near(e.Cubes)...)
			if at < len(rules) {
				checkMatch(t, e.Name, c, rules[at].Match, e.Cubes, some)
				checkWritten(t, e.Name, c, rules[at].Sets, e.Write, headers)
			} else {
				checkRoute(t, e.Name, c, routes[box][at-len(rules)], e.Cubes, some)
				checkWritten(t, e.Name, c, nil, e.Write, headers)
			}
		}
		at := make([]int, len(n.Ports))
		for _, l := range b.Guards {
			port := tellNumber(n.Ports, b.Name+"."+l.Port)
			line := n.Guards[port][at[port]]
			at[port]++
			if line.Permit != l.Permit {
				t.Fatalf("P9.1: a line of %s permits: %v", n.Ports[port].Name, line.Permit)
			}
			checkMatch(t, "a line of "+n.Ports[port].Name, c, l.Match, line.Cubes, append(headers, s.near(line.Cubes)...))
		}
	}
	return entries
}

func TestNumbersSayWhatTheTextSays(t *testing.T) {
	s := source(96)
	entries := 0
	for k := range 150 {
		c := s.small()
		if k%3 == 0 {
			c = s.great()
		}
		if n, errno := lower.Lower(c); errno == api.OK {
			entries += checkMeaning(t, &s, c, n)
		}
	}
	if entries < 1000 {
		t.Errorf("only %d entries", entries)
	}
}
