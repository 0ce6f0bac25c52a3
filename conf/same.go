package conf

import (
	"cmp"
	"slices"

	"reach/api"
)

// sameInAnyOrder: whether each element is in both lists as often. Sorted lists show it by one way along both, however long they are.
func sameInAnyOrder[T any](a, b []T, compare func(x, y T) int) bool {
	a, b = slices.Clone(a), slices.Clone(b)
	slices.SortFunc(a, compare)
	slices.SortFunc(b, compare)
	return slices.EqualFunc(a, b, func(x, y T) bool { return compare(x, y) == 0 })
}

func sameBoxes(a, b api.Box) bool {
	return a.Name == b.Name &&
		slices.Equal(a.Ins, b.Ins) && slices.Equal(a.Outs, b.Outs) &&
		slices.EqualFunc(a.Guards, b.Guards, sameLines) &&
		sameInAnyOrder(sortedFroms(a.Rules), sortedFroms(b.Rules), compareRules) &&
		sameInAnyOrder(a.Owns, b.Owns, comparePrefixes) &&
		sameInAnyOrder(a.Routes, b.Routes, comparePrefixes)
}

func sameLines(a, b api.Line) bool {
	return a.Port == b.Port && a.Permit == b.Permit && slices.Equal(a.Match, b.Match)
}

// sortedFroms are the rules, each From in one order.
func sortedFroms(rules []api.Rule) []api.Rule {
	rules = slices.Clone(rules)
	for n := range rules {
		rules[n].From = slices.Sorted(slices.Values(rules[n].From))
	}
	return rules
}

func compareRules(a, b api.Rule) int {
	return cmp.Or(
		cmp.Compare(a.Priority, b.Priority),
		slices.Compare(a.From, b.From),
		slices.CompareFunc(a.Match, b.Match, compareNodes),
		slices.CompareFunc(a.Sets, b.Sets, compareSets),
		slices.Compare(a.To, b.To),
	)
}

func compareNodes(a, b api.Node) int {
	return cmp.Or(
		cmp.Compare(a.Kind, b.Kind),
		cmp.Compare(a.Test.Field, b.Test.Field),
		cmp.Compare(a.Test.Op, b.Test.Op),
		cmp.Compare(a.Test.Form, b.Test.Form),
		cmp.Compare(a.Test.Lo, b.Test.Lo),
		cmp.Compare(a.Test.Hi, b.Test.Hi),
		cmp.Compare(a.Test.Len, b.Test.Len),
		cmp.Compare(a.Test.Pattern, b.Test.Pattern),
	)
}

func compareSets(a, b api.Set) int {
	return cmp.Or(cmp.Compare(a.Field, b.Field), cmp.Compare(a.Value, b.Value))
}

func comparePrefixes(a, b api.Prefix) int {
	return cmp.Or(cmp.Compare(a.Value, b.Value), cmp.Compare(a.Len, b.Len), cmp.Compare(a.To, b.To))
}

func compareLinks(a, b api.Link) int {
	return cmp.Or(cmp.Compare(a.From, b.From), cmp.Compare(a.To, b.To), cmp.Compare(a.Cost, b.Cost))
}

func compareSlices(a, b api.Slice) int {
	return cmp.Or(
		cmp.Compare(a.Name, b.Name),
		slices.Compare(a.Ports, b.Ports),
		slices.CompareFunc(a.Where, b.Where, compareNodes),
	)
}
