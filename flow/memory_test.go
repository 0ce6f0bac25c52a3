package flow_test

import (
	"fmt"
	"reflect"
	"slices"
	"strings"
	"sync"
	"testing"
	"unsafe"

	"reach/api"
	"reach/flow"
	"reach/tern"
)

// room is a piece of memory.
type room struct{ from, to uintptr }

func (r room) meets(other room) bool { return r.from < other.to && other.from < r.to }

// roomsOf: the memory of all lists of a value, spare room too, and of all its texts.
func roomsOf(v reflect.Value) []room {
	var rooms []room
	switch v.Kind() {
	case reflect.Struct:
		for n := range v.NumField() {
			rooms = append(rooms, roomsOf(v.Field(n))...)
		}
	case reflect.Slice:
		if v.Cap() > 0 {
			rooms = append(rooms, room{v.Pointer(), v.Pointer() + uintptr(v.Cap())*v.Type().Elem().Size()})
		}
		for n := range v.Len() {
			rooms = append(rooms, roomsOf(v.Index(n))...)
		}
	case reflect.String:
		// A text of one byte may stand in memory that belongs to no one: the runtime has all of them. And none is a constant.
		if v.Len() > 1 && v.String() != "none" {
			from := uintptr(unsafe.Pointer(unsafe.StringData(v.String())))
			rooms = append(rooms, room{from, from + uintptr(v.Len())})
		}
	}
	return rooms
}

func allRooms(values ...any) []room {
	var all []room
	for _, v := range values {
		all = append(all, roomsOf(reflect.ValueOf(v))...)
	}
	return all
}

// checkApart: no two pieces of the answer's memory are one, and none is of those.
func checkApart(t *testing.T, what string, answer any, others []room) {
	t.Helper()
	all := append(allRooms(answer), others...)
	own := len(all) - len(others)
	order := make([]int, len(all))
	for n := range order {
		order[n] = n
	}
	slices.SortFunc(order, func(a, b int) int { return int(all[a].from) - int(all[b].from) })
	last := 0
	for n := range order[1:] {
		a, b := order[last], order[n+1]
		if all[a].meets(all[b]) && (a < own || b < own) {
			t.Fatalf("W6: %.2000s: the answer shares memory", what)
		}
		if all[b].to > all[a].to {
			last = n + 1
		}
	}
}

// withSpare: the same value, each of its lists and texts in memory of its own, with something in the room behind a list's end.
func withSpare[T any](value T) T {
	return copied(reflect.ValueOf(value)).Interface().(T)
}

func copied(v reflect.Value) reflect.Value {
	out := reflect.New(v.Type()).Elem()
	out.Set(v)
	switch v.Kind() {
	case reflect.Struct:
		for n := range v.NumField() {
			out.Field(n).Set(copied(v.Field(n)))
		}
	case reflect.String:
		out.SetString(strings.Clone(v.String()))
	case reflect.Slice:
		full := reflect.MakeSlice(v.Type(), v.Len()+3, v.Len()+3)
		for n := range full.Len() {
			if n < v.Len() {
				full.Index(n).Set(copied(v.Index(n)))
			} else {
				fill(full.Index(n))
			}
		}
		out.Set(full.Slice(0, v.Len()))
	}
	return out
}

// fill writes something into an element that no call is to see.
func fill(v reflect.Value) {
	switch v.Kind() {
	case reflect.Struct:
		for n := range v.NumField() {
			fill(v.Field(n))
		}
	case reflect.Slice:
		v.Set(reflect.MakeSlice(v.Type(), 1, 1))
	case reflect.String:
		v.SetString("spare")
	case reflect.Bool:
		v.SetBool(true)
	case reflect.Int:
		v.SetInt(99)
	}
}

// opened: a copy of the value in which what lies behind its lists' ends is part of them.
func opened(v reflect.Value) reflect.Value {
	out := reflect.New(v.Type()).Elem()
	switch v.Kind() {
	case reflect.Struct:
		for n := range v.NumField() {
			out.Field(n).Set(opened(v.Field(n)))
		}
	case reflect.Slice:
		all := v.Slice(0, v.Cap())
		for n := range all.Len() {
			out.Set(reflect.Append(out, opened(all.Index(n))))
		}
	default:
		out.Set(v)
	}
	return out
}

// answers: all that the calls answer, of all ports and headers.
type answers struct {
	Size         int
	Flows, First []api.Flow
	Numbers      []int
	At           []string
}

func answersOf(n api.Net, w *flow.Walk) answers {
	a := answers{Size: w.Size()}
	for i, f := range w.All() {
		a.Flows, a.Numbers = append(a.Flows, f), append(a.Numbers, i)
	}
	for port := range n.Ports {
		text, errno := w.At(port)
		a.At, a.Numbers = append(a.At, text), append(a.Numbers, int(errno))
		for h := range tern.All(n.Bits).Members() {
			i, f := w.First(port, h)
			a.First, a.Numbers = append(a.First, f), append(a.Numbers, i)
		}
	}
	return a
}

// spread: a mixed network with something behind every list's end, and a walk in it.
func (s *source) spread(t *testing.T) (walking, *flow.Walk) {
	t.Helper()
	for {
		a := s.walking(s.small())
		a.n, a.from, a.budget = withSpare(a.n), strings.Clone(a.from), api.MaxBudget
		if w, errno := flow.New(a.n, a.start, a.from, a.hops, a.budget, a.stop); errno == api.OK && w.Size() > 3 && w.Size() < 100 {
			return a, w
		}
	}
}

func TestAnswersAreNewMemory(t *testing.T) {
	s := source(41)
	for range 150 {
		a, w := s.spread(t)
		first, second := answersOf(a.n, w), answersOf(a.n, w)
		checkApart(t, "all calls", first, allRooms(second, a.n, a.from))
		if !reflect.DeepEqual(first, second) {
			t.Fatalf("W2: another answer: %v, %v", first, second)
		}
	}
}

// The first flow's origin has the text that was handed in, and no memory of it.
func TestTheOriginIsANewText(t *testing.T) {
	for _, bits := range []int{2, 64, 256} {
		n := plain(bits, send([]string{x(bits)}, 2))
		from := strings.Clone(x(bits) + "-1" + x(bits-1))
		w := walked(t, n, 0, from, 3, 20, false)
		if i, f := w.First(0, strings.Repeat("0", bits)); i != 0 || f.Origin != from {
			t.Fatalf("P12.1: the first flow is %d, %s", i, flowText(f))
		}
		for i, f := range w.All() {
			checkApart(t, fmt.Sprint("flow ", i), f, allRooms(from, n))
		}
	}
}

// wipe writes over a list and its spare room.
func wipe(list []int) {
	for at := range list[:cap(list)] {
		list[:cap(list)][at] = 99
	}
}

// P12.9: what the caller writes into a flow, its spare room too, does not come back, and no other flow sees it.
func TestFlowsAreTheCallersOwn(t *testing.T) {
	s := source(42)
	for range 150 {
		a, w := s.spread(t)
		was := answersOf(a.n, w)
		for i, f := range w.All() {
			if flowText(f) != flowText(was.Flows[i]) {
				t.Fatalf("P12.9: flow %d is %s; was %s", i, flowText(f), flowText(was.Flows[i]))
			}
			wipe(f.Ports)
			wipe(f.Entries)
		}
		for _, f := range answersOf(a.n, w).First {
			wipe(f.Ports)
			wipe(f.Entries)
		}
		if now := answersOf(a.n, w); !reflect.DeepEqual(now, was) {
			t.Fatalf("P12.9: %v; was %v", now, was)
		}
	}
}

// rewrite makes other numbers of a network's lists, in place, their spare room too.
func rewrite(v reflect.Value) {
	switch v.Kind() {
	case reflect.Struct:
		for n := range v.NumField() {
			rewrite(v.Field(n))
		}
	case reflect.Slice:
		all := v.Slice(0, v.Cap())
		for n := range all.Len() {
			rewrite(all.Index(n))
		}
	default:
		if v.CanSet() {
			fill(v)
		}
	}
}

// P12.9: what is written into the network's lists later changes no answer, not of a loop that has begun either.
func TestListsThatAreWrittenOverLater(t *testing.T) {
	s := source(43)
	for range 150 {
		a, w := s.spread(t)
		n := a.n
		n.Ports = slices.Clone(n.Ports)
		was := answersOf(n, w)
		all := w.All()
		for i, f := range all {
			rewrite(reflect.ValueOf(a.n))
			if flowText(f) != flowText(was.Flows[i]) {
				t.Fatalf("P12.9: flow %d is %s; was %s", i, flowText(f), flowText(was.Flows[i]))
			}
		}
		if now := answersOf(n, w); !reflect.DeepEqual(now, was) {
			t.Fatalf("P12.9: the lists were written over: %v; was %v", now, was)
		}
	}
}

func TestArgumentsStayAsTheyWere(t *testing.T) {
	s := source(44)
	for k := range 300 {
		a := s.walking(s.small())
		a.n = withSpare(a.n)
		if k%5 == 0 {
			a.n.Bits++
		}
		was := opened(reflect.ValueOf(a.n)).Interface()
		w, _ := flow.New(a.n, a.start, a.from, a.hops, a.budget, a.stop)
		answersOf(a.n, w)
		if now := opened(reflect.ValueOf(a.n)).Interface(); !reflect.DeepEqual(now, was) {
			t.Fatalf("W6: what was handed in is other behind the calls: %+v, was %+v", now, was)
		}
	}
}

// Many New at the same time over one network, and many calls of one Walk: the answers are always the same ones.
func TestManyAtTheSameTime(t *testing.T) {
	s := source(45)
	for range 10 {
		a, w := s.spread(t)
		was := answersOf(a.n, w)
		var work sync.WaitGroup
		lists := make([]answers, 24)
		for at := range lists {
			work.Go(func() {
				mine := w
				if at%2 == 0 {
					mine, _ = flow.New(a.n, a.start, a.from, a.hops, a.budget, a.stop)
				}
				lists[at] = answersOf(a.n, mine)
			})
		}
		work.Wait()
		for _, now := range lists {
			if !reflect.DeepEqual(now, was) {
				t.Fatalf("W2: %v; was %v", now, was)
			}
		}
	}
}
