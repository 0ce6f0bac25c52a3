package rib_test

import (
	"reflect"
	"slices"
	"testing"

	"reach/api"
	"reach/rib"
)

// room is a piece of memory.
type room struct{ from, to uintptr }

func (r room) meets(other room) bool { return r.from < other.to && other.from < r.to }

// roomsOf: the memory of all lists of a value, spare room too.
func roomsOf(v reflect.Value) []room {
	var rooms []room
	switch v.Kind() {
	case reflect.Struct:
		for n := range v.NumField() {
			rooms = append(rooms, roomsOf(v.Field(n))...)
		}
	case reflect.Slice:
		if v.Cap() > 0 {
			rooms = append(rooms, room{v.Pointer(), v.Pointer() + uintptr(v.Cap())*v.Type().Elem().Size()})
		}
		for n := range v.Len() {
			rooms = append(rooms, roomsOf(v.Index(n))...)
		}
	}
	return rooms
}

func allRooms(values ...any) []room {
	var all []room
	for _, v := range values {
		all = append(all, roomsOf(reflect.ValueOf(v))...)
	}
	return all
}

// checkApart: no two pieces of the answer's memory are one, and none is of those.
func checkApart(t *testing.T, what string, answer any, others []room) {
	t.Helper()
	all := allRooms(answer)
	for n, r := range all {
		if slices.ContainsFunc(all[:n], r.meets) || slices.ContainsFunc(others, r.meets) {
			t.Fatalf("P8.8: %s: the answer shares memory", what)
		}
	}
}

// withSpare: the same value, each of its lists in memory of its own, with something in the room behind its end.
func withSpare[T any](value T) T {
	var copied func(v reflect.Value) reflect.Value
	copied = func(v reflect.Value) reflect.Value {
		out := reflect.New(v.Type()).Elem()
		out.Set(v)
		switch v.Kind() {
		case reflect.Struct:
			for n := range v.NumField() {
				out.Field(n).Set(copied(v.Field(n)))
			}
		case reflect.Slice:
			full := reflect.MakeSlice(v.Type(), v.Len()+3, v.Len()+3)
			for n := range full.Len() {
				if n < v.Len() {
					full.Index(n).Set(copied(v.Index(n)))
				} else {
					fill(full.Index(n))
				}
			}
			out.Set(full.Slice(0, v.Len()))
		}
		return out
	}
	return copied(reflect.ValueOf(value)).Interface().(T)
}

// fill writes something into an element that no call is to see.
func fill(v reflect.Value) {
	switch v.Kind() {
	case reflect.Struct:
		for n := range v.NumField() {
			fill(v.Field(n))
		}
	case reflect.String:
		v.SetString("spare")
	case reflect.Int:
		v.SetInt(99)
	}
}

// opened: a copy of the value in which what lies behind its lists' ends is part of them.
func opened(v reflect.Value) reflect.Value {
	out := reflect.New(v.Type()).Elem()
	switch v.Kind() {
	case reflect.Struct:
		for n := range v.NumField() {
			out.Field(n).Set(opened(v.Field(n)))
		}
	case reflect.Slice:
		all := v.Slice(0, v.Cap())
		for n := range all.Len() {
			out.Set(reflect.Append(out, opened(all.Index(n))))
		}
	default:
		out.Set(v)
	}
	return out
}

// given: what is handed in to the calls.
type given struct {
	Bits   int
	Routes []api.Route
	Nodes  int
	Edges  []api.Edge
	Dests  []int
	Net    api.Config
}

// answers: all that they answer.
type answers struct {
	Order, Slim []api.Route
	Far, First  []int
	Tables      [][]api.Route
}

func answersOf(g given) answers {
	var a answers
	a.Order, _ = rib.Order(g.Bits, g.Routes)
	a.Slim, _ = rib.Slim(g.Bits, g.Routes)
	rib.Lookup(g.Bits, g.Routes, 1)
	a.Far, a.First, _ = rib.Shortest(g.Nodes, g.Edges, g.Dests...)
	a.Tables, _ = rib.Tables(g.Net)
	return a
}

func (s *source) given(n int) given {
	bits, nodes := 1+s.below(32), 1+s.below(16)
	g := given{Bits: bits, Routes: s.routes(bits, 20), Nodes: nodes, Edges: s.edges(nodes, 20), Net: s.network(1 + n%16)}
	for range s.below(4) {
		g.Dests = append(g.Dests, s.below(nodes))
	}
	return g
}

func TestAnswersAreNewMemory(t *testing.T) {
	s := source(88)
	for n := range 200 {
		g := withSpare(s.given(n))
		first, second := answersOf(g), answersOf(g)
		checkApart(t, "all calls", first, allRooms(second, g))
	}
}

// A list that is in order already, and has nothing to be left out, is no reason to answer with it itself.
func TestWhatIsLaidIsNewMemory(t *testing.T) {
	laid := []api.Route{own(8, 1, 1), static(0, 0, 2)}
	order, _ := rib.Order(4, laid)
	slim, _ := rib.Slim(4, laid)
	if !slices.Equal(order, laid) || !slices.Equal(slim, laid) {
		t.Fatalf("P8.2, P8.4: %v, %v", order, slim)
	}
	checkApart(t, "Order", order, allRooms(laid, slim))
	checkApart(t, "Slim", slim, allRooms(laid, order))
}

func TestArgumentsStayAsTheyWere(t *testing.T) {
	s := source(89)
	for n := range 300 {
		g := withSpare(s.given(n))
		switch n % 6 {
		case 0:
			g.Bits = 40
		case 1:
			g.Routes, g.Edges = append(g.Routes, api.Route{}), append(g.Edges, api.Edge{})
		case 2:
			g.Nodes, g.Net.Routing = 17, "none"
		}
		was := opened(reflect.ValueOf(g)).Interface()
		answersOf(g)
		if now := opened(reflect.ValueOf(g)).Interface(); !reflect.DeepEqual(now, was) {
			t.Fatalf("P8.8: what was handed in is other behind the calls: %+v, was %+v", now, was)
		}
	}
}

// What the caller writes into an answer, its spare room too, does not come back.
func TestAnswersAreTheCallersOwn(t *testing.T) {
	s := source(90)
	g := s.given(5)
	g.Net = atTheLimits(false)
	want, got := answersOf(g), answersOf(g)
	var wipe func(v reflect.Value)
	wipe = func(v reflect.Value) {
		if v.Kind() == reflect.Slice {
			all := v.Slice(0, v.Cap())
			for n := range all.Len() {
				wipe(all.Index(n))
				all.Index(n).SetZero()
			}
		}
	}
	for n := range reflect.TypeOf(got).NumField() {
		wipe(reflect.ValueOf(&got).Elem().Field(n))
	}
	if again := answersOf(g); !reflect.DeepEqual(again, want) {
		t.Errorf("P8.8: the answers are others now: %+v, were %+v", again, want)
	}
}
