package rib_test

import (
	"slices"
	"testing"

	"reach/api"
	"reach/rib"
)

// checkRoutes holds Order, Lookup and Slim against their second telling.
func checkRoutes(t *testing.T, bits int, routes []api.Route, values ...int) {
	t.Helper()
	want, errno := tellOrder(bits, routes)
	checkOrder(t, bits, routes, want, errno)
	slim, errno := tellSlim(bits, routes)
	checkSlim(t, bits, routes, slim, errno)
	for _, value := range values {
		at, errno := tellLookup(bits, routes, value)
		checkLookup(t, bits, routes, value, at, errno)
	}
}

// checkErrno: all three calls refuse, or none.
func checkErrno(t *testing.T, what string, bits int, routes []api.Route, want api.Errno) {
	t.Helper()
	list, errno := rib.Order(bits, routes)
	if errno != want || errno != api.OK && list != nil {
		t.Errorf("P8.1: %s: Order: %v, %d; want %d", what, list, errno, want)
	}
	list, errno = rib.Slim(bits, routes)
	if errno != want || errno != api.OK && list != nil {
		t.Errorf("P8.1: %s: Slim: %v, %d; want %d", what, list, errno, want)
	}
	at, errno := rib.Lookup(bits, routes, 0)
	if errno != want || errno != api.OK && at != 0 {
		t.Errorf("P8.1: %s: Lookup: %d, %d; want %d", what, at, errno, want)
	}
}

func repeated(r api.Route, n int) []api.Route { return slices.Repeat([]api.Route{r}, n) }

func TestErrorsOfRoutes(t *testing.T) {
	const least, most = -1 << 63, 1<<63 - 1
	right, wrong := static(0, 0, 0), api.Route{}
	for _, bits := range []int{least, -33, -1, 0, 33, 64, 1 << 32, most} {
		checkErrno(t, "bits", bits, nil, api.ErrArg)
		checkErrno(t, "bits and a route", bits, []api.Route{wrong}, api.ErrArg)
		checkErrno(t, "bits and too many", bits, repeated(right, 257), api.ErrLong)
	}
	for _, bits := range []int{1, 2, 31, 32} {
		checkErrno(t, "bits", bits, nil, api.OK)
		checkErrno(t, "empty", bits, []api.Route{}, api.OK)
		checkErrno(t, "256 routes", bits, repeated(right, 256), api.OK)
		checkErrno(t, "257 routes", bits, repeated(right, 257), api.ErrLong)
		checkErrno(t, "256 wrong routes", bits, repeated(wrong, 256), api.ErrRoute)
		checkErrno(t, "257 wrong routes", bits, repeated(wrong, 257), api.ErrLong)
		checkErrno(t, "a wrong one at the end", bits, append(repeated(right, 255), wrong), api.ErrRoute)
		checkErrno(t, "a wrong one ahead", bits, append([]api.Route{wrong}, right), api.ErrRoute)
	}
	checkErrno(t, "very many", 4, repeated(right, 1<<20), api.ErrLong)
}

// Each part of a route by itself, around its bounds.
func TestRoutesThatMayNotBe(t *testing.T) {
	const least, most = -1 << 63, 1<<63 - 1
	for bits := 1; bits <= 32; bits++ {
		top := 1<<bits - 1
		for _, length := range []int{least, -1, 0, 1, bits / 2, bits - 1, bits, bits + 1, 33, 63, 64, 65, most} {
			low := 0
			if length >= 0 && length <= bits {
				low = bits - length
			}
			first := top >> low << low
			for _, value := range []int{least, least + 1, -1, 0, 1, 1 << low, first, first | 1, first | 1<<low>>1, first + 1<<low, top, top + 1, most} {
				for _, kind := range []int{least, -1, 0, 1, 2, 3, 4, most} {
					for _, out := range []int{least, -1, 0, 47, 48, most} {
						r := api.Route{Kind: kind, Value: value, Len: length, Out: out}
						want := api.OK
						if !tellMayBe(bits, r) {
							want = api.ErrRoute
						}
						checkErrno(t, "one route", bits, []api.Route{r}, want)
					}
				}
			}
		}
	}
}

func TestErrorsOfLookup(t *testing.T) {
	for bits := 1; bits <= 32; bits++ {
		routes := []api.Route{static(0, 0, 5)}
		for _, value := range []int{-1 << 63, -1 << 32, -1, 1 << bits, 1<<bits + 1, 1 << 33, 1<<63 - 1} {
			checkLookup(t, bits, routes, value, 0, api.ErrArg)
			checkLookup(t, bits, nil, value, 0, api.ErrArg)
			checkLookup(t, bits, append(routes, api.Route{}), value, 0, api.ErrRoute)
			checkLookup(t, 33, routes, value, 0, api.ErrArg)
			checkLookup(t, bits, repeated(routes[0], 257), value, 0, api.ErrLong)
		}
		checkLookup(t, bits, routes, 1<<bits-1, 0, api.OK)
		checkLookup(t, bits, routes, 0, 0, api.OK)
	}
}

// allRoutes: those of all prefixes of b bits, all kinds, and the outs below outs.
func allRoutes(bits, outs int) []api.Route {
	var list []api.Route
	for length := range bits + 1 {
		for n := range 1 << length {
			for kind := 1; kind <= 3; kind++ {
				for out := range outs {
					list = append(list, api.Route{Kind: kind, Value: n << (bits - length), Len: length, Out: out})
				}
			}
		}
	}
	return list
}

// eachList calls look with all lists of up to most elements.
func eachList[T any](all []T, most int, look func(list []T)) {
	var add func(list []T)
	add = func(list []T) {
		look(list)
		if len(list) < most {
			for _, x := range all {
				add(append(list[:len(list):len(list)], x))
			}
		}
	}
	add(nil)
}

func TestAllShortLists(t *testing.T) {
	eachList(allRoutes(1, 2), 3, func(list []api.Route) { checkRoutes(t, 1, list, -1, 0, 1, 2) })
	eachList(allRoutes(2, 1), 3, func(list []api.Route) { checkRoutes(t, 2, list, 0, 1, 2, 3) })
	eachList(allRoutes(2, 3), 2, func(list []api.Route) { checkRoutes(t, 2, list, 0, 1, 2, 3) })
	eachList(allRoutes(3, 2), 2, func(list []api.Route) { checkRoutes(t, 3, list, 0, 1, 2, 3, 4, 5, 6, 7) })
}

// checkGoesAlike: P8.5, value by value; without one of the list's routes some value goes elsewhere.
func checkGoesAlike(t *testing.T, bits int, routes []api.Route) {
	t.Helper()
	slim, errno := rib.Slim(bits, routes)
	if errno != api.OK {
		t.Fatalf("P8.4: Slim(%d, %v): %d", bits, routes, errno)
	}
	goes := func(list []api.Route) []int {
		var outs []int
		for value := range 1 << bits {
			outs = append(outs, tellOut(bits, list, value))
		}
		return outs
	}
	whole := goes(routes)
	if !slices.Equal(goes(slim), whole) {
		t.Fatalf("P8.5: Slim(%d, %v) is %v: a value goes elsewhere", bits, routes, slim)
	}
	for at := range slim {
		if slices.Equal(goes(slices.Delete(slices.Clone(slim), at, at+1)), whole) {
			t.Fatalf("P8.5: Slim(%d, %v) is %v: %v can be left out", bits, routes, slim, slim[at])
		}
	}
}

// withOuts: one static route a prefix of b bits whose number has a digit that is not 0; the digit tells its out.
func withOuts(bits, outs, number int) []api.Route {
	var list []api.Route
	for length := range bits + 1 {
		for n := range 1 << length {
			if digit := number % (outs + 1); digit > 0 {
				list = append(list, static(n<<(bits-length), length, digit))
			}
			number /= outs + 1
		}
	}
	return list
}

func TestSlimOfAllSmallTables(t *testing.T) {
	for number := range 16384 { // 4 choices for each of 7 prefixes
		list := withOuts(2, 3, number)
		checkRoutes(t, 2, list)
		checkGoesAlike(t, 2, list)
	}
	s := source(85)
	for range 12000 {
		list := mixed(&s, withOuts(3, 2, s.below(14348907))) // 3 choices for each of 15 prefixes
		checkRoutes(t, 3, list)
		checkGoesAlike(t, 3, list)
	}
}

func TestSlimGoesAlike(t *testing.T) {
	s := source(86)
	for range 3000 {
		bits := 1 + s.below(5)
		checkGoesAlike(t, bits, s.routes(bits, 24))
	}
}

func TestMixedRoutes(t *testing.T) {
	s := source(81)
	for n := range 6000 {
		bits := 1 + n%32
		list := s.routes(bits, []int{3, 8, 20, 60}[s.below(4)])
		checkRoutes(t, bits, list, s.values(bits, list)...)
	}
}

func TestManyRoutes(t *testing.T) {
	s := source(82)
	for n := range 64 {
		bits := 1 + n%32
		var list []api.Route
		for len(list) < 256 {
			list = append(list, s.routes(bits, 256-len(list))...)
		}
		checkRoutes(t, bits, list, s.values(bits, list)...)
	}
}

// Prefixes that have one another, down to the last bit: the deepest list there is.
func TestNestedRoutes(t *testing.T) {
	s := source(83)
	for range 200 {
		value := s.value(32)
		var list []api.Route
		for length := range 33 {
			list = append(list, static(value>>(32-length)<<(32-length), length, s.below(2)))
			if length > 0 {
				list = append(list, computed((value>>(32-length)^1)<<(32-length), length, s.below(2)))
			}
		}
		checkRoutes(t, 32, list, append(s.values(32, list), value)...)
		list = mixed(&s, list)
		checkRoutes(t, 32, list[1+s.below(len(list)-1):], value, value^1, value^1<<31)
	}
}

// Many prefixes that leave just a little to 0/0, or nothing.
func TestFullTables(t *testing.T) {
	for _, bits := range []int{8, 32} {
		var list []api.Route
		for n := range 255 {
			list = append(list, static(n<<(bits-8), 8, n%48))
		}
		almost := append(list, static(0, 0, 7))
		checkRoutes(t, bits, almost, 0, 1<<bits-1, 255<<(bits-8), 255<<(bits-8)-1)
		if slim, _ := rib.Slim(bits, almost); !slices.Contains(slim, static(0, 0, 7)) {
			t.Errorf("P8.4: %d bits: the values behind the 255 prefixes meet 0/0: %v", bits, slim)
		}
		full := append(list[:254:254], static(254<<(bits-8), 7, 9), static(0, 0, 7))
		if slim, _ := rib.Slim(bits, full); slices.Contains(slim, static(0, 0, 7)) {
			t.Errorf("P8.4: %d bits: no value meets 0/0: %v", bits, slim)
		}
		checkRoutes(t, bits, full, 0, 1<<bits-1)
	}
}

// Of one prefix: the lowest kind, then the first.
func TestOneAPrefix(t *testing.T) {
	list := []api.Route{computed(4, 2, 1), static(4, 2, 2), static(4, 2, 3), own(4, 2, 5), own(4, 2, 4), computed(0, 2, 6), computed(0, 2, 7)}
	checkOrder(t, 4, list, []api.Route{computed(0, 2, 6), own(4, 2, 5)}, api.OK)
	checkLookup(t, 4, list, 7, 3, api.OK)
	checkLookup(t, 4, list, 3, 5, api.OK)
	checkLookup(t, 4, list, 8, -1, api.OK)
	checkOrder(t, 4, list[:3], []api.Route{static(4, 2, 2)}, api.OK)
	checkLookup(t, 4, list[:3], 4, 1, api.OK)
}

// The two steps of Slim: a parent is sought among what is left of the first; the second leaves out all at once.
func TestStepsOfSlim(t *testing.T) {
	for _, x := range []struct {
		list, want []api.Route
	}{
		// 8/1 is met by no value; so 8/2 and 12/2 have 0/0 as parent.
		{[]api.Route{static(0, 0, 1), static(8, 1, 2), static(8, 2, 1), static(12, 2, 2)}, []api.Route{static(12, 2, 2), static(0, 0, 1)}},
		// 0/1 goes though its parent goes with it.
		{[]api.Route{static(0, 0, 1), static(0, 1, 1), static(0, 2, 1), static(0, 3, 2)}, []api.Route{static(0, 3, 2), static(0, 0, 1)}},
		// Out and home again: each sends elsewhere than its parent.
		{[]api.Route{static(0, 0, 1), static(0, 1, 2), static(0, 2, 1)}, []api.Route{static(0, 2, 1), static(0, 1, 2), static(0, 0, 1)}},
		// Kinds say nothing where the prefixes are unlike.
		{[]api.Route{own(0, 0, 1), computed(0, 1, 1), static(8, 2, 2)}, []api.Route{static(8, 2, 2), own(0, 0, 1)}},
		// 0/1 and 8/1 leave nothing to 0/0.
		{[]api.Route{own(0, 0, 1), computed(0, 1, 1), static(8, 1, 1)}, []api.Route{computed(0, 1, 1), static(8, 1, 1)}},
	} {
		checkSlim(t, 4, x.list, x.want, api.OK)
	}
}
