package lower_test

import (
	"reflect"
	"slices"
	"strings"
	"testing"
	"unsafe"

	"reach/api"
	"reach/lower"
)

// room is a piece of memory.
type room struct{ from, to uintptr }

func (r room) meets(other room) bool { return r.from < other.to && other.from < r.to }

// roomsOf: the memory of all lists of a value, spare room too, and of all its texts.
func roomsOf(v reflect.Value) []room {
	var rooms []room
	switch v.Kind() {
	case reflect.Struct:
		for n := range v.NumField() {
			rooms = append(rooms, roomsOf(v.Field(n))...)
		}
	case reflect.Slice:
		if v.Cap() > 0 {
			rooms = append(rooms, room{v.Pointer(), v.Pointer() + uintptr(v.Cap())*v.Type().Elem().Size()})
		}
		for n := range v.Len() {
			rooms = append(rooms, roomsOf(v.Index(n))...)
		}
	case reflect.String:
		// A text of one byte may stand in memory that belongs to no one: the runtime has all of them.
		if v.Len() > 1 {
			from := uintptr(unsafe.Pointer(unsafe.StringData(v.String())))
			rooms = append(rooms, room{from, from + uintptr(v.Len())})
		}
	}
	return rooms
}

func allRooms(values ...any) []room {
	var all []room
	for _, v := range values {
		all = append(all, roomsOf(reflect.ValueOf(v))...)
	}
	return all
}

// checkApart: no two pieces of the answer's memory are one, and none is of those.
func checkApart(t *testing.T, what string, answer any, others []room) {
	t.Helper()
	all := append(allRooms(answer), others...)
	own := len(all) - len(others)
	order := make([]int, len(all))
	for n := range order {
		order[n] = n
	}
	slices.SortFunc(order, func(a, b int) int { return int(all[a].from) - int(all[b].from) })
	last := 0
	for n := range order[1:] {
		a, b := order[last], order[n+1]
		if all[a].meets(all[b]) && (a < own || b < own) {
			t.Fatalf("P9.8: %.2000s: the answer shares memory", what)
		}
		if all[b].to > all[a].to {
			last = n + 1
		}
	}
}

// withSpare: the same value, each of its lists and texts in memory of its own, with something in the room behind a list's end.
func withSpare[T any](value T) T {
	return copied(reflect.ValueOf(value)).Interface().(T)
}

func copied(v reflect.Value) reflect.Value {
	out := reflect.New(v.Type()).Elem()
	out.Set(v)
	switch v.Kind() {
	case reflect.Struct:
		for n := range v.NumField() {
			out.Field(n).Set(copied(v.Field(n)))
		}
	case reflect.String:
		out.SetString(strings.Clone(v.String()))
	case reflect.Slice:
		full := reflect.MakeSlice(v.Type(), v.Len()+3, v.Len()+3)
		for n := range full.Len() {
			if n < v.Len() {
				full.Index(n).Set(copied(v.Index(n)))
			} else {
				fill(full.Index(n))
			}
		}
		out.Set(full.Slice(0, v.Len()))
	}
	return out
}

// fill writes something into an element that no call is to see.
func fill(v reflect.Value) {
	switch v.Kind() {
	case reflect.Struct:
		for n := range v.NumField() {
			fill(v.Field(n))
		}
	case reflect.Slice:
		v.Set(reflect.MakeSlice(v.Type(), 1, 1))
	case reflect.String:
		v.SetString("spare")
	case reflect.Bool:
		v.SetBool(true)
	case reflect.Int:
		v.SetInt(99)
	}
}

// opened: a copy of the value in which what lies behind its lists' ends is part of them.
func opened(v reflect.Value) reflect.Value {
	out := reflect.New(v.Type()).Elem()
	switch v.Kind() {
	case reflect.Struct:
		for n := range v.NumField() {
			out.Field(n).Set(opened(v.Field(n)))
		}
	case reflect.Slice:
		all := v.Slice(0, v.Cap())
		for n := range all.Len() {
			out.Set(reflect.Append(out, opened(all.Index(n))))
		}
	default:
		out.Set(v)
	}
	return out
}

// answers: all that the calls answer on a network.
type answers struct {
	Net    api.Net
	Tables [][]api.Entry
	Guards [][]api.Guard
}

func answersOf(c api.Config) answers {
	var a answers
	a.Net, _ = lower.Lower(c)
	for box := -1; box <= len(c.Boxes); box++ {
		table, _ := lower.Table(c, box)
		a.Tables = append(a.Tables, table)
	}
	for port := -1; port <= len(a.Net.Ports); port++ {
		guard, _ := lower.Guard(c, port)
		a.Guards = append(a.Guards, guard)
	}
	return a
}

func TestAnswersAreNewMemory(t *testing.T) {
	s := source(98)
	for n := range 40 {
		c := s.great()
		if n%2 == 0 {
			c = s.small()
		}
		c = withSpare(c)
		first, second := answersOf(c), answersOf(c)
		checkApart(t, "all calls", first, allRooms(second, c))
	}
}

// The lists of two entries are alike, and two all the same: the in-ports of every route and of every rule without From, one cube, the word that writes nothing.
func TestAlikeListsAreTwo(t *testing.T) {
	c := withSpare(parsed(t, "header dst:8 tag:2\nrouting dst\nbox BB\nin aa bb\nout cc dd\nguard aa deny any\nguard aa deny any\nguard bb deny any\nrule 3 match any to cc, dd\nrule 2 match any to cc, dd\nrule 1 from aa bb match any set tag = 1 to cc, dd\nrule 0 match any set tag = 1 drop\nown 0/0 to cc\nown 64/2 to cc\nroute 128/1 to cc\nbox CC\nin aa\nout bb\nlink CC.bb -> BB.aa"))
	first := answersOf(c)
	if len(first.Net.Tables[0]) != 7 || len(first.Net.Guards[0]) != 2 {
		t.Fatalf("P9.1: %+v", first.Net)
	}
	checkApart(t, "entries that are alike", first, allRooms(answersOf(c), c))
}

func TestArgumentsStayAsTheyWere(t *testing.T) {
	s := source(99)
	for n := range 120 {
		c := s.network(s.fields(1+s.below(40), 8), 1+n%8)
		switch n % 5 {
		case 0:
			c.Routing = "none"
		case 1:
			c.Boxes = append(c.Boxes, c.Boxes...)
		}
		c = withSpare(c)
		was := opened(reflect.ValueOf(c)).Interface()
		answersOf(c)
		if now := opened(reflect.ValueOf(c)).Interface(); !reflect.DeepEqual(now, was) {
			t.Fatalf("P9.8: what was handed in is other behind the calls: %+v, was %+v", now, was)
		}
	}
}

func TestValidLeavesItsArgument(t *testing.T) {
	s := source(100)
	for n := range 300 {
		net := s.net()
		if n%2 == 0 {
			net = s.damaged(net)
		}
		net = withSpare(net)
		was := opened(reflect.ValueOf(net)).Interface()
		lower.Valid(net)
		if now := opened(reflect.ValueOf(net)).Interface(); !reflect.DeepEqual(now, was) {
			t.Fatalf("W6: what was handed in is other behind Valid: %+v, was %+v", now, was)
		}
	}
}

// What the caller writes into an answer, its spare room too, does not come back.
func TestAnswersAreTheCallersOwn(t *testing.T) {
	c := parsed(t, two+"link R2.b -> R1.a\n")
	want, got := plainly(answersOf(c)), answersOf(c)
	var wipe func(v reflect.Value)
	wipe = func(v reflect.Value) {
		switch v.Kind() {
		case reflect.Struct:
			for n := range v.NumField() {
				wipe(v.Field(n))
			}
		case reflect.Slice:
			all := v.Slice(0, v.Cap())
			for n := range all.Len() {
				wipe(all.Index(n))
				all.Index(n).SetZero()
			}
		}
	}
	wipe(reflect.ValueOf(&got).Elem())
	if again := answersOf(c); !equal(again, want) {
		t.Errorf("P9.8: the answers are others now: %+v, were %+v", again, want)
	}
}
