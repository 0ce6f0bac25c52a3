package cover_test

// P15.6: what is handed in is not changed and not kept, what is answered is new memory.

import (
	"fmt"
	"reflect"
	"slices"
	"strings"
	"sync"
	"testing"
	"unsafe"

	"reach/api"
	"reach/cover"
)

// room is a piece of memory.
type room struct{ from, to uintptr }

func (r room) meets(other room) bool { return r.from < other.to && other.from < r.to }

// roomsOf: the memory of all lists of a value, spare room too, and of all its texts.
func roomsOf(v reflect.Value) []room {
	var rooms []room
	switch v.Kind() {
	case reflect.Struct:
		for n := range v.NumField() {
			rooms = append(rooms, roomsOf(v.Field(n))...)
		}
	case reflect.Slice:
		if v.Cap() > 0 {
			rooms = append(rooms, room{v.Pointer(), v.Pointer() + uintptr(v.Cap())*v.Type().Elem().Size()})
		}
		for n := range v.Len() {
			rooms = append(rooms, roomsOf(v.Index(n))...)
		}
	case reflect.String:
		// A text of one byte may stand in memory that belongs to no one: the runtime has all of them. And none is a constant.
		if v.Len() > 1 && v.String() != "none" {
			from := uintptr(unsafe.Pointer(unsafe.StringData(v.String())))
			rooms = append(rooms, room{from, from + uintptr(v.Len())})
		}
	}
	return rooms
}

func allRooms(values ...any) []room {
	var all []room
	for _, v := range values {
		all = append(all, roomsOf(reflect.ValueOf(v))...)
	}
	return all
}

// checkApart: no two pieces of the answer's memory are one, and none is of those.
func checkApart(t *testing.T, what string, answer any, others []room) {
	t.Helper()
	all := append(allRooms(answer), others...)
	own := len(all) - len(others)
	order := make([]int, len(all))
	for n := range order {
		order[n] = n
	}
	slices.SortFunc(order, func(a, b int) int { return int(all[a].from) - int(all[b].from) })
	last := 0
	for n := range order[1:] {
		a, b := order[last], order[n+1]
		if all[a].meets(all[b]) && (a < own || b < own) {
			t.Fatalf("P15.6: %.2000s: the answer shares memory", what)
		}
		if all[b].to > all[a].to {
			last = n + 1
		}
	}
}

// withSpare: the same value, each of its lists and texts in memory of its own, with something in the room behind a list's end.
func withSpare[T any](value T) T {
	return copied(reflect.ValueOf(value)).Interface().(T)
}

func copied(v reflect.Value) reflect.Value {
	out := reflect.New(v.Type()).Elem()
	out.Set(v)
	switch v.Kind() {
	case reflect.Struct:
		for n := range v.NumField() {
			out.Field(n).Set(copied(v.Field(n)))
		}
	case reflect.String:
		out.SetString(strings.Clone(v.String()))
	case reflect.Slice:
		full := reflect.MakeSlice(v.Type(), v.Len()+3, v.Len()+3)
		for n := range full.Len() {
			if n < v.Len() {
				full.Index(n).Set(copied(v.Index(n)))
			} else {
				fill(full.Index(n))
			}
		}
		out.Set(full.Slice(0, v.Len()))
	}
	return out
}

// fill writes something into an element that no call is to see.
func fill(v reflect.Value) {
	switch v.Kind() {
	case reflect.Struct:
		for n := range v.NumField() {
			fill(v.Field(n))
		}
	case reflect.Slice:
		v.Set(reflect.MakeSlice(v.Type(), 1, 1))
	case reflect.String:
		v.SetString("spare")
	case reflect.Bool:
		v.SetBool(true)
	case reflect.Int:
		v.SetInt(99)
	}
}

// opened: a copy of the value in which what lies behind its lists' ends is part of them.
func opened(v reflect.Value) reflect.Value {
	out := reflect.New(v.Type()).Elem()
	switch v.Kind() {
	case reflect.Struct:
		for n := range v.NumField() {
			out.Field(n).Set(opened(v.Field(n)))
		}
	case reflect.Slice:
		all := v.Slice(0, v.Cap())
		for n := range all.Len() {
			out.Set(reflect.Append(out, opened(all.Index(n))))
		}
	default:
		out.Set(v)
	}
	return out
}

// given: all that the calls are handed.
type given struct {
	N     api.Net
	Doors []int
}

func (a asking) given() given { return given{a.n, a.doors} }

// answers: all that is answered.
type answers struct {
	Doors    []int
	Spaces   []string
	Coverage api.Coverage
}

func (a asking) answers() answers {
	var all answers
	all.Doors, _ = cover.Doors(a.n)
	for _, door := range a.doors {
		for entry := range a.entries() {
			s, _ := cover.Meets(a.n, door, entry, a.hops, a.budget)
			all.Spaces = append(all.Spaces, s)
		}
	}
	all.Coverage, _ = a.cover()
	return all
}

// spread: something to ask, with something behind every list's end.
func (s *source) spread() asking {
	a := s.asking(s.small())
	a.n, a.doors, a.hops, a.budget = withSpare(a.n), withSpare(a.doors), a.hops%8, api.MaxBudget
	return a
}

func TestAnswersAreNewMemory(t *testing.T) {
	s := source(71)
	packets := 0
	for range 250 {
		a := s.spread()
		first, second := a.answers(), a.answers()
		checkApart(t, a.String(), first, allRooms(second, a.given()))
		if !reflect.DeepEqual(first, second) {
			t.Fatalf("W2: %v: another answer: %v, %v", a, first, second)
		}
		if len(first.Coverage.Packets) > 1 {
			packets++
		}
	}
	if packets < 50 {
		t.Errorf("the trial shows less than it should: %d", packets)
	}
}

// Several doors from which the same header is sent, wide ones too, and meets the same entries.
func TestPacketsShareNothing(t *testing.T) {
	for _, bits := range []int{2, 64, 256} {
		n := withSpare(plain(bits, send([]string{"1" + x(bits-1)}, 2), at(send([]string{x(bits)}, 3), 1), at(send([]string{x(bits)}, 3), 0)))
		c, errno := cover.Cover(n, []int{0, 1}, 4, 20)
		ones, zeros := "1"+strings.Repeat("0", bits-1), strings.Repeat("0", bits)
		check(t, "P15.6", text(c, errno), fmt.Sprintf("0:%s[0 1] 0:%s[2] live 3", ones, zeros))
		checkApart(t, text(c, errno), c, allRooms(n))
		n.Ports[2].To = -1
		c, errno = cover.Cover(n, []int{0, 1}, 4, 20)
		check(t, "P15.6", text(c, errno), fmt.Sprintf("0:%s[0] 0:%s[2] 1:%s[1] live 3", ones, zeros, zeros))
		checkApart(t, text(c, errno), c, allRooms(n))
	}
}

// Two doors that lead to one port, and each to one of its own: what is met there is met by the same header from both.
func TestPacketsOfTwoDoorsShareNothing(t *testing.T) {
	all, half := []string{"xxxx"}, []string{"1xxx"}
	n := plain(4, send(all, 2, 3), at(send(all, 2, 7), 4), at(send(half), 1), at(send(half), 5), at(send(half), 6))
	for _, name := range []string{"R.e", "R.f", "R.g"} {
		n.Ports = append(n.Ports, api.Port{Name: name, In: true, To: -1})
	}
	n.Ports = append(n.Ports, api.Port{Name: "R.h", To: 6})
	n.Ports[3].To, n.Guards = 5, make([][]api.Guard, 8)
	c, errno := cover.Cover(n, []int{0, 4}, 4, 20)
	check(t, "P15.6", text(c, errno), "0:1000[0 2 3] 4:1000[1 2 4] live 5")
	checkApart(t, text(c, errno), c, allRooms(n))
}

// wipe writes over a list and its spare room.
func wipe[T any](list []T, with T) {
	for at := range list[:cap(list)] {
		list[:cap(list)][at] = with
	}
}

// What the caller writes into an answer comes back in no other one, nor in another list of it.
func TestAnswersAreTheCallersOwn(t *testing.T) {
	s := source(72)
	for range 150 {
		a := s.spread()
		was := a.answers()
		kept := fmt.Sprint(was)
		now := a.answers()
		for at, p := range now.Coverage.Packets {
			wipe(p.Hits, 999)
			if strings.Contains(fmt.Sprint(now.Coverage.Packets[at+1:]), "999") {
				t.Fatalf("P15.6: %v: the lists of an answer share memory", a)
			}
		}
		wipe(now.Coverage.Packets, api.Packet{})
		wipe(now.Coverage.Dead, api.Dead{})
		wipe(now.Doors, 999)
		if again := a.answers(); !reflect.DeepEqual(again, was) || fmt.Sprint(was) != kept {
			t.Fatalf("P15.6: %v: %v; was %s", a, again, kept)
		}
	}
}

func TestArgumentsStayAsTheyWere(t *testing.T) {
	s := source(73)
	for k := range 250 {
		a := s.spread()
		switch k % 5 {
		case 0:
			a.n.Bits++
		case 1:
			a.doors = withSpare(append(a.doors, a.doors...))
		}
		was := opened(reflect.ValueOf(a.given())).Interface()
		a.answers()
		if now := opened(reflect.ValueOf(a.given())).Interface(); !reflect.DeepEqual(now, was) {
			t.Fatalf("P15.6: what was handed in is other behind the calls: %+v, was %+v", now, was)
		}
	}
}

// Nothing is kept: the same calls in another order, and over another network of the same lists.
func TestNothingIsKept(t *testing.T) {
	s := source(74)
	for range 80 {
		a, b := s.spread(), s.spread()
		first := fmt.Sprint(a.answers(), b.answers())
		again := fmt.Sprint(b.answers())
		if now := fmt.Sprint(a.answers()) + " " + again; now != first {
			t.Fatalf("W2: %v: %s; was %s", a, now, first)
		}
		if len(a.n.Tables[0]) == 0 {
			continue
		}
		other := a
		other.n = withSpare(a.n)
		a.n.Tables[0][0].Cubes, other.n.Tables[0][0].Cubes = nil, nil
		if now, want := fmt.Sprint(a.answers()), fmt.Sprint(other.answers()); now != want {
			t.Fatalf("W2: %v: the lists were written over: %s; want %s", a, now, want)
		}
	}
}

// Many calls at the same time over one network: the answers are always the same ones.
func TestManyAtTheSameTime(t *testing.T) {
	s := source(75)
	for range 15 {
		a := s.spread()
		was := a.answers()
		lists := make([]answers, 16)
		var work sync.WaitGroup
		for at := range lists {
			work.Go(func() { lists[at] = a.answers() })
		}
		work.Wait()
		for _, now := range lists {
			if !reflect.DeepEqual(now, was) {
				t.Fatalf("W2: %v: %v; was %v", a, now, was)
			}
		}
	}
}
