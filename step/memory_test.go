package step_test

import (
	"reflect"
	"slices"
	"strings"
	"testing"
	"unsafe"

	"reach/api"
	"reach/step"
)

// room is a piece of memory.
type room struct{ from, to uintptr }

func (r room) meets(other room) bool { return r.from < other.to && other.from < r.to }

// roomsOf: the memory of all lists of a value, spare room too, and of all its texts.
func roomsOf(v reflect.Value) []room {
	var rooms []room
	switch v.Kind() {
	case reflect.Struct:
		for n := range v.NumField() {
			rooms = append(rooms, roomsOf(v.Field(n))...)
		}
	case reflect.Slice:
		if v.Cap() > 0 {
			rooms = append(rooms, room{v.Pointer(), v.Pointer() + uintptr(v.Cap())*v.Type().Elem().Size()})
		}
		for n := range v.Len() {
			rooms = append(rooms, roomsOf(v.Index(n))...)
		}
	case reflect.String:
		// A text of one byte may stand in memory that belongs to no one: the runtime has all of them.
		if v.Len() > 1 {
			from := uintptr(unsafe.Pointer(unsafe.StringData(v.String())))
			rooms = append(rooms, room{from, from + uintptr(v.Len())})
		}
	}
	return rooms
}

func allRooms(values ...any) []room {
	var all []room
	for _, v := range values {
		all = append(all, roomsOf(reflect.ValueOf(v))...)
	}
	return all
}

// checkApart: no two pieces of the answer's memory are one, and none is of those.
func checkApart(t *testing.T, what string, answer any, others []room) {
	t.Helper()
	all := append(allRooms(answer), others...)
	own := len(all) - len(others)
	order := make([]int, len(all))
	for n := range order {
		order[n] = n
	}
	slices.SortFunc(order, func(a, b int) int { return int(all[a].from) - int(all[b].from) })
	last := 0
	for n := range order[1:] {
		a, b := order[last], order[n+1]
		if all[a].meets(all[b]) && (a < own || b < own) {
			t.Fatalf("W6: %.2000s: the answer shares memory", what)
		}
		if all[b].to > all[a].to {
			last = n + 1
		}
	}
}

// withSpare: the same value, each of its lists and texts in memory of its own, with something in the room behind a list's end.
func withSpare[T any](value T) T {
	return copied(reflect.ValueOf(value)).Interface().(T)
}

func copied(v reflect.Value) reflect.Value {
	out := reflect.New(v.Type()).Elem()
	out.Set(v)
	switch v.Kind() {
	case reflect.Struct:
		for n := range v.NumField() {
			out.Field(n).Set(copied(v.Field(n)))
		}
	case reflect.String:
		out.SetString(strings.Clone(v.String()))
	case reflect.Slice:
		full := reflect.MakeSlice(v.Type(), v.Len()+3, v.Len()+3)
		for n := range full.Len() {
			if n < v.Len() {
				full.Index(n).Set(copied(v.Index(n)))
			} else {
				fill(full.Index(n))
			}
		}
		out.Set(full.Slice(0, v.Len()))
	}
	return out
}

// fill writes something into an element that no call is to see.
func fill(v reflect.Value) {
	switch v.Kind() {
	case reflect.Struct:
		for n := range v.NumField() {
			fill(v.Field(n))
		}
	case reflect.Slice:
		v.Set(reflect.MakeSlice(v.Type(), 1, 1))
	case reflect.String:
		v.SetString("spare")
	case reflect.Bool:
		v.SetBool(true)
	case reflect.Int:
		v.SetInt(99)
	}
}

// opened: a copy of the value in which what lies behind its lists' ends is part of them.
func opened(v reflect.Value) reflect.Value {
	out := reflect.New(v.Type()).Elem()
	switch v.Kind() {
	case reflect.Struct:
		for n := range v.NumField() {
			out.Field(n).Set(opened(v.Field(n)))
		}
	case reflect.Slice:
		all := v.Slice(0, v.Cap())
		for n := range all.Len() {
			out.Set(reflect.Append(out, opened(all.Index(n))))
		}
	default:
		out.Set(v)
	}
	return out
}

// answers: all that the calls answer on one packet.
type answers struct {
	Next   []api.State
	Paths  []api.Path
	Again  []api.Path
	Reach  []api.Path
	Loop   api.Path
	Follow []string
}

func answersOf(n api.Net, s api.State, hops int) answers {
	var a answers
	_, a.Next, _ = step.Next(n, s)
	seq := step.Paths(n, s, hops)
	for p := range seq {
		if a.Paths = append(a.Paths, p); len(a.Paths) == 20 {
			break
		}
	}
	for p := range seq {
		if a.Again = append(a.Again, p); len(a.Again) == 20 {
			break
		}
	}
	for to := range n.Ports {
		p, _, _ := step.Reach(n, s, to, hops)
		a.Reach = append(a.Reach, p)
	}
	a.Loop, _, _ = step.Loop(n, s, hops)
	for _, p := range a.Paths {
		header, _, _ := step.Follow(n, s, p.Ports)
		a.Follow = append(a.Follow, header)
	}
	return a
}

// spread: a packet of a mixed network, with something behind every list's end.
func (s *source) spread(n int) (api.Net, api.State, int) {
	net := s.small()
	if n%4 == 0 {
		net = s.net([]int{64, 65, 256}[s.below(3)], 1+s.below(48))
	}
	return withSpare(net), withSpare(s.state(net)), []int{0, 1, 3, 64}[s.below(4)]
}

func TestAnswersAreNewMemory(t *testing.T) {
	s := source(111)
	for k := range 300 {
		n, state, hops := s.spread(k)
		first, second := answersOf(n, state, hops), answersOf(n, state, hops)
		checkApart(t, "all calls", first, allRooms(second, n, state))
	}
	n, state := withSpare(exampleNet()), withSpare(at(0, "100"))
	checkApart(t, "the example", answersOf(n, state, 8), allRooms(answersOf(n, state, 8), n, state))
	state = withSpare(at(1, "100"))
	checkApart(t, "the example, from an out-port", answersOf(n, state, 0), allRooms(answersOf(n, state, 0), n, state))
	checkApart(t, "very many paths", answersOf(bush(), state, 64), nil)
}

func TestArgumentsStayAsTheyWere(t *testing.T) {
	s := source(112)
	for k := range 300 {
		n, state, hops := s.spread(k)
		switch k % 7 {
		case 0:
			n.Bits++
		case 1:
			state.Port = -1
		}
		ports := append(make([]int, 0, 9), state.Port, s.below(len(n.Ports)))
		was := opened(reflect.ValueOf(n)).Interface()
		answersOf(n, state, hops)
		step.Follow(n, state, ports[:1])
		step.Follow(n, state, ports)
		if now := opened(reflect.ValueOf(n)).Interface(); !reflect.DeepEqual(now, was) {
			t.Fatalf("W6: what was handed in is other behind the calls: %+v, was %+v", now, was)
		}
		if room := ports[:9]; slices.ContainsFunc(room[2:], func(p int) bool { return p != 0 }) {
			t.Fatalf("W6: the ports are others behind Follow: %v", room)
		}
	}
}

// What the caller writes into an answer, its spare room too, does not come back: not in the next path of a loop, not in another loop, not in another call.
func TestAnswersAreTheCallersOwn(t *testing.T) {
	wipe := func(list []int) {
		for at := range list[:cap(list)] {
			list[:cap(list)][at] = 77
		}
	}
	for _, s := range []api.State{at(0, "1"), at(4, "1")} {
		seq := step.Paths(bush(), s, 2)
		var want []api.Path
		for p := range seq {
			want = append(want, p)
		}
		for range 2 {
			count := 0
			for p := range seq {
				if !samePath(p, want[count]) {
					t.Fatalf("P10.4: the path %d is another now: %v, was %v", count, p, want[count])
				}
				wipe(p.Ports)
				wipe(p.Entries)
				count++
			}
		}
		for range 2 {
			p, _, _ := step.Loop(bush(), s, 2)
			q, _, _ := step.Reach(bush(), s, 2, 2)
			if p.Ports[0] != s.Port || q.Ports[0] != s.Port {
				t.Fatalf("W6: the paths are others now: %v, %v", p, q)
			}
			wipe(p.Ports)
			wipe(q.Ports)
		}
	}
	seq := step.Paths(bush(), at(4, "1"), 0)
	for range 3 {
		for p := range seq {
			if !samePath(p, path("1", []int{4, 0})) {
				t.Fatalf("P10.4: the beginning is another now: %v", p)
			}
			wipe(p.Ports)
		}
	}
}
