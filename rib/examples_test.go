package rib_test

// The examples of chapter 8.

import (
	"slices"
	"testing"

	"reach/api"
	"reach/conf"
	"reach/rib"
)

func own(value, length, out int) api.Route {
	return api.Route{Kind: api.RouteOwn, Value: value, Len: length, Out: out}
}

func static(value, length, out int) api.Route {
	return api.Route{Kind: api.RouteStatic, Value: value, Len: length, Out: out}
}

func computed(value, length, out int) api.Route {
	return api.Route{Kind: api.RouteComputed, Value: value, Len: length, Out: out}
}

func parsed(t *testing.T, text string) api.Config {
	t.Helper()
	c, errno, line := conf.Parse(text)
	if errno != api.OK {
		t.Fatalf("%q is no network: %d in line %d", text, errno, line)
	}
	return c
}

func checkOrder(t *testing.T, bits int, routes, want []api.Route, wantErrno api.Errno) {
	t.Helper()
	if list, errno := rib.Order(bits, routes); errno != wantErrno || !slices.Equal(list, want) || errno != api.OK && list != nil {
		t.Fatalf("P8.1, P8.2: Order(%d, %.300v): %v, %d; want %v, %d", bits, routes, list, errno, want, wantErrno)
	}
}

func checkLookup(t *testing.T, bits int, routes []api.Route, value, want int, wantErrno api.Errno) {
	t.Helper()
	if at, errno := rib.Lookup(bits, routes, value); errno != wantErrno || at != want {
		t.Fatalf("P8.1, P8.3: Lookup(%d, %.300v, %d): %d, %d; want %d, %d", bits, routes, value, at, errno, want, wantErrno)
	}
}

func checkSlim(t *testing.T, bits int, routes, want []api.Route, wantErrno api.Errno) {
	t.Helper()
	if list, errno := rib.Slim(bits, routes); errno != wantErrno || !slices.Equal(list, want) || errno != api.OK && list != nil {
		t.Fatalf("P8.1, P8.4: Slim(%d, %.300v): %v, %d; want %v, %d", bits, routes, list, errno, want, wantErrno)
	}
}

func checkShortest(t *testing.T, nodes int, edges []api.Edge, dests, far, first []int, wantErrno api.Errno) {
	t.Helper()
	gotFar, gotFirst, errno := rib.Shortest(nodes, edges, dests...)
	if errno != wantErrno || !slices.Equal(gotFar, far) || !slices.Equal(gotFirst, first) {
		t.Fatalf("P8.6: Shortest(%d, %.300v, %v): %v, %v, %d; want %v, %v, %d", nodes, edges, dests, gotFar, gotFirst, errno, far, first, wantErrno)
	}
	if errno != api.OK && (gotFar != nil || gotFirst != nil) {
		t.Fatalf("W3: Shortest(%d, %.300v, %v): %v, %v beside %d", nodes, edges, dests, gotFar, gotFirst, errno)
	}
}

func sameTables(a, b [][]api.Route) bool { return slices.EqualFunc(a, b, slices.Equal) }

func checkTables(t *testing.T, what string, c api.Config, want [][]api.Route, wantErrno api.Errno) {
	t.Helper()
	if tables, errno := rib.Tables(c); errno != wantErrno || !sameTables(tables, want) || errno != api.OK && tables != nil {
		t.Fatalf("P8.7: Tables of %s: %v, %d; want %v, %d", what, tables, errno, want, wantErrno)
	}
}

func TestExamplesOfRoutes(t *testing.T) {
	routes := []api.Route{static(8, 1, 2), computed(8, 2, 3), own(8, 1, 1), static(0, 0, 5), static(8, 1, 4)}
	checkOrder(t, 4, routes, []api.Route{computed(8, 2, 3), own(8, 1, 1), static(0, 0, 5)}, api.OK)
	checkLookup(t, 4, routes, 9, 1, api.OK)
	checkLookup(t, 4, routes, 12, 2, api.OK)
	checkLookup(t, 4, routes, 3, 3, api.OK)
	checkLookup(t, 4, nil, 3, -1, api.OK)
	checkLookup(t, 4, nil, 16, 0, api.ErrArg)
	checkOrder(t, 4, []api.Route{static(9, 3, 1)}, nil, api.ErrRoute)
	checkOrder(t, 33, nil, nil, api.ErrArg)
	checkOrder(t, 4, nil, nil, api.OK)
	unmet := []api.Route{static(0, 1, 1), static(0, 2, 1), static(4, 2, 2), static(0, 0, 3)}
	checkOrder(t, 4, unmet, []api.Route{static(0, 2, 1), static(4, 2, 2), static(0, 1, 1), static(0, 0, 3)}, api.OK)
	checkSlim(t, 4, unmet, []api.Route{static(0, 2, 1), static(4, 2, 2), static(0, 0, 3)}, api.OK)
	alike := []api.Route{static(0, 0, 3), static(8, 1, 3), static(12, 2, 3), static(14, 3, 1)}
	checkSlim(t, 4, alike, []api.Route{static(14, 3, 1), static(0, 0, 3)}, api.OK)
}

func TestExamplesOfWays(t *testing.T) {
	edges := []api.Edge{{From: 0, To: 1, Cost: 5}, {From: 1, To: 2, Cost: 1}, {From: 0, To: 2, Cost: 6}, {From: 2, To: 0, Cost: 1}}
	checkShortest(t, 4, edges, []int{2}, []int{6, 1, 0, -1}, []int{0, 1, -1, -1}, api.OK)
	checkShortest(t, 2, nil, nil, []int{-1, -1}, []int{-1, -1}, api.OK)
	checkShortest(t, 0, nil, nil, nil, nil, api.ErrArg)
	checkShortest(t, 2, []api.Edge{{From: 0, To: 2, Cost: 1}}, []int{5}, nil, nil, api.ErrGraph)
	checkShortest(t, 2, nil, []int{5}, nil, nil, api.ErrArg)
}

func TestExampleOfTables(t *testing.T) {
	c := parsed(t, "header dst:32\nrouting dst\nbox R1\nout c\nbox R2\nin a\nout d\nown 10.0.0.0/8 to d\nlink R1.c -> R2.a")
	checkTables(t, "the example", c, [][]api.Route{{computed(10<<24, 8, 0)}, {own(10<<24, 8, 2)}}, api.OK)
}
