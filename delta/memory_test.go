package delta_test

// P16.4: what is handed in is not changed and not kept, what is answered is new memory.

import (
	"fmt"
	"reflect"
	"runtime"
	"slices"
	"strings"
	"sync"
	"testing"
	"time"
	"unsafe"

	"reach/api"
	"reach/delta"
)

// room is a piece of memory.
type room struct{ from, to uintptr }

func (r room) meets(other room) bool { return r.from < other.to && other.from < r.to }

// roomsOf: the memory of all lists of a value, spare room too, and of all its texts.
func roomsOf(v reflect.Value) []room {
	var rooms []room
	switch v.Kind() {
	case reflect.Struct:
		for n := range v.NumField() {
			rooms = append(rooms, roomsOf(v.Field(n))...)
		}
	case reflect.Slice:
		if v.Cap() > 0 {
			rooms = append(rooms, room{v.Pointer(), v.Pointer() + uintptr(v.Cap())*v.Type().Elem().Size()})
		}
		for n := range v.Len() {
			rooms = append(rooms, roomsOf(v.Index(n))...)
		}
	case reflect.String:
		// A text of one byte may stand in memory that belongs to no one: the runtime has all of them. And none is a constant.
		if v.Len() > 1 && v.String() != "none" {
			from := uintptr(unsafe.Pointer(unsafe.StringData(v.String())))
			rooms = append(rooms, room{from, from + uintptr(v.Len())})
		}
	}
	return rooms
}

func allRooms(values ...any) []room {
	var all []room
	for _, v := range values {
		all = append(all, roomsOf(reflect.ValueOf(v))...)
	}
	return all
}

// checkApart: no two pieces of the answer's memory are one, and none is of those.
func checkApart(t *testing.T, what string, answer any, others []room) {
	t.Helper()
	all := append(allRooms(answer), others...)
	own := len(all) - len(others)
	order := make([]int, len(all))
	for n := range order {
		order[n] = n
	}
	slices.SortFunc(order, func(a, b int) int { return int(all[a].from) - int(all[b].from) })
	last := 0
	for n := range order[1:] {
		a, b := order[last], order[n+1]
		if all[a].meets(all[b]) && (a < own || b < own) {
			t.Fatalf("P16.4: %.2000s: the answer shares memory", what)
		}
		if all[b].to > all[a].to {
			last = n + 1
		}
	}
}

// withSpare: the same value, each of its lists and texts in memory of its own, with something in the room behind a list's end.
func withSpare[T any](value T) T {
	return copied(reflect.ValueOf(value)).Interface().(T)
}

func copied(v reflect.Value) reflect.Value {
	out := reflect.New(v.Type()).Elem()
	out.Set(v)
	switch v.Kind() {
	case reflect.Struct:
		for n := range v.NumField() {
			out.Field(n).Set(copied(v.Field(n)))
		}
	case reflect.String:
		out.SetString(strings.Clone(v.String()))
	case reflect.Slice:
		full := reflect.MakeSlice(v.Type(), v.Len()+3, v.Len()+3)
		for n := range full.Len() {
			if n < v.Len() {
				full.Index(n).Set(copied(v.Index(n)))
			} else {
				fill(full.Index(n))
			}
		}
		out.Set(full.Slice(0, v.Len()))
	}
	return out
}

// fill writes something into an element that no call is to see.
func fill(v reflect.Value) {
	switch v.Kind() {
	case reflect.Struct:
		for n := range v.NumField() {
			fill(v.Field(n))
		}
	case reflect.Slice:
		v.Set(reflect.MakeSlice(v.Type(), 1, 1))
	case reflect.String:
		v.SetString("spare")
	case reflect.Bool:
		v.SetBool(true)
	case reflect.Int:
		v.SetInt(99)
	}
}

// opened: a copy of the value in which what lies behind its lists' ends is part of them.
func opened(v reflect.Value) reflect.Value {
	out := reflect.New(v.Type()).Elem()
	switch v.Kind() {
	case reflect.Struct:
		for n := range v.NumField() {
			out.Field(n).Set(opened(v.Field(n)))
		}
	case reflect.Slice:
		all := v.Slice(0, v.Cap())
		for n := range all.Len() {
			out.Set(reflect.Append(out, opened(all.Index(n))))
		}
	default:
		out.Set(v)
	}
	return out
}

// given: all that the calls are handed.
type given struct {
	A, B       api.Net
	Where      string
	Old, Newer api.Config
}

// spread: something to ask, with something behind every list's end.
func (s *source) spread() (asking, given) {
	a := s.asking(s.small())
	a.hops, a.budget = s.below(7), api.MaxBudget
	old, newer := s.configs()
	g := withSpare(given{a.a, a.b, a.where, old, newer})
	a.a, a.b, a.where = g.A, g.B, g.Where
	return a, g
}

// answers: all that is answered.
type answers struct {
	Delta api.Delta
	Lines []string
}

func answered(a asking, g given) answers {
	d, _ := delta.Compare(a.a, a.b, a.from, a.to, a.where, a.hops, a.budget)
	lines, _ := delta.Changes(g.Old, g.Newer)
	return answers{d, lines}
}

func TestAnswersAreNewMemory(t *testing.T) {
	s := source(71)
	found, lines := 0, 0
	for range 250 {
		a, g := s.spread()
		first, second := answered(a, g), answered(a, g)
		checkApart(t, a.String(), first, allRooms(second, g))
		if !reflect.DeepEqual(first, second) {
			t.Fatalf("W2: %v: another answer: %v, %v", a, first, second)
		}
		if first.Delta.Gained.Found || first.Delta.Lost.Found {
			found++
		}
		if len(first.Lines) > 1 {
			lines++
		}
	}
	if found < 50 || lines < 80 {
		t.Errorf("the trial shows less than it should: %d, %d", found, lines)
	}
}

// wipe writes over a list and its spare room.
func wipe[T any](list []T, with T) {
	for at := range list[:cap(list)] {
		list[:cap(list)][at] = with
	}
}

// What the caller writes into an answer comes back in no other one, nor in another list of it.
func TestAnswersAreTheCallersOwn(t *testing.T) {
	s := source(72)
	for range 200 {
		a, g := s.spread()
		was := answered(a, g)
		kept := fmt.Sprint(was)
		now := answered(a, g)
		lists := [][]int{now.Delta.Gained.Ports, now.Delta.Gained.Entries, now.Delta.Lost.Ports, now.Delta.Lost.Entries}
		for at, list := range lists {
			wipe(list, 999)
			if strings.Contains(fmt.Sprint(lists[at+1:]), "999") {
				t.Fatalf("P16.4: %v: the lists of an answer share memory", a)
			}
		}
		wipe(now.Lines, "")
		if again := answered(a, g); !reflect.DeepEqual(again, was) || fmt.Sprint(was) != kept {
			t.Fatalf("P16.4: %v: %v; was %s", a, again, kept)
		}
	}
}

func TestArgumentsStayAsTheyWere(t *testing.T) {
	s := source(73)
	for k := range 250 {
		a, g := s.spread()
		switch k % 5 {
		case 0:
			a.b.Bits++
		case 1:
			a.to = -1
		case 2:
			a.budget = 1
		}
		was := opened(reflect.ValueOf(g)).Interface()
		answered(a, g)
		if now := opened(reflect.ValueOf(g)).Interface(); !reflect.DeepEqual(now, was) {
			t.Fatalf("P16.4: what was handed in is other behind the calls: %+v, was %+v", now, was)
		}
	}
}

// Nothing is kept: the same calls in another order, and over other networks of the same lists.
func TestNothingIsKept(t *testing.T) {
	s := source(74)
	for range 150 {
		a, g := s.spread()
		b, h := s.spread()
		first := fmt.Sprint(answered(a, g), answered(b, h))
		again := fmt.Sprint(answered(b, h))
		if now := fmt.Sprint(answered(a, g)) + " " + again; now != first {
			t.Fatalf("W2: %v: %s; was %s", a, now, first)
		}
		other, k := a, withSpare(g)
		other.a, other.b = k.A, k.B
		if len(g.Newer.Links) > 0 {
			g.Newer.Links[0].Cost, k.Newer.Links[0].Cost = 77, 77
		}
		for at := range g.B.Tables {
			for e := range g.B.Tables[at] {
				g.B.Tables[at][e].Cubes, k.B.Tables[at][e].Cubes = nil, nil
			}
		}
		if now, want := fmt.Sprint(answered(a, g)), fmt.Sprint(answered(other, k)); now != want {
			t.Fatalf("W2: %v: the lists were written over: %s; want %s", a, now, want)
		}
	}
}

// Many calls at the same time over the same networks, on one processor and on many: the answers are always the same ones.
func TestManyAtTheSameTime(t *testing.T) {
	s := source(75)
	defer runtime.GOMAXPROCS(runtime.GOMAXPROCS(0))
	for round := range 30 {
		runtime.GOMAXPROCS(1 + round%4)
		a, g := s.spread()
		was := answered(a, g)
		lists := make([]answers, 16)
		var work sync.WaitGroup
		for at := range lists {
			work.Go(func() { lists[at] = answered(a, g) })
		}
		work.Wait()
		for _, now := range lists {
			if !reflect.DeepEqual(now, was) {
				t.Fatalf("W2: %v: %v; was %v", a, now, was)
			}
		}
	}
}

// The walks have ended when Compare answers, whichever of them is refused. (A goroutine that has closed its channel may still be counted for a moment.)
func TestNoWalkGoesOn(t *testing.T) {
	a, b := plain(9, send([]string{x(9)}, 3)), plain(9, send([]string{x(9)}, 3))
	refused := plain(9, send([]string{x(9)}, 3))
	refused.Guards[3] = antichain(9, 129)
	before := runtime.NumGoroutine()
	for range 50 {
		check(t, "P16.2", compare(a, b, 0, 3, x(9), 1, most), "none from 0; none from 0")
		check(t, "P16.1", compare(a, refused, 0, 3, x(9), 1, most), "error 3")
		check(t, "P16.1", compare(refused, b, 0, 3, x(9), 1, most), "error 3")
		check(t, "P16.1", compare(refused, refused, 0, 3, x(9), 1, most), "error 3")
		check(t, "P16.1", compare(a, b, 0, 4, x(9), 1, most), "error 120")
		check(t, "P16.1", compare(a, b, 0, 3, x(9), 1, 0), "error 1")
	}
	for range 100 {
		if runtime.NumGoroutine() <= before {
			return
		}
		time.Sleep(10 * time.Millisecond)
	}
	t.Errorf("%d goroutines, %d before", runtime.NumGoroutine(), before)
}
