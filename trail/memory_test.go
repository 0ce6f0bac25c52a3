package trail_test

// P14.6: what is handed in is not changed and not kept, what is answered is new memory.

import (
	"fmt"
	"reflect"
	"slices"
	"strings"
	"sync"
	"testing"
	"unsafe"

	"reach/api"
	"reach/trail"
)

// room is a piece of memory.
type room struct{ from, to uintptr }

func (r room) meets(other room) bool { return r.from < other.to && other.from < r.to }

// roomsOf: the memory of all lists of a value, spare room too, and of all its texts.
func roomsOf(v reflect.Value) []room {
	var rooms []room
	switch v.Kind() {
	case reflect.Struct:
		for n := range v.NumField() {
			rooms = append(rooms, roomsOf(v.Field(n))...)
		}
	case reflect.Slice:
		if v.Cap() > 0 {
			rooms = append(rooms, room{v.Pointer(), v.Pointer() + uintptr(v.Cap())*v.Type().Elem().Size()})
		}
		for n := range v.Len() {
			rooms = append(rooms, roomsOf(v.Index(n))...)
		}
	case reflect.String:
		// A text of one byte may stand in memory that belongs to no one: the runtime has all of them. And none is a constant.
		if v.Len() > 1 && v.String() != "none" {
			from := uintptr(unsafe.Pointer(unsafe.StringData(v.String())))
			rooms = append(rooms, room{from, from + uintptr(v.Len())})
		}
	}
	return rooms
}

func allRooms(values ...any) []room {
	var all []room
	for _, v := range values {
		all = append(all, roomsOf(reflect.ValueOf(v))...)
	}
	return all
}

// checkApart: no two pieces of the answer's memory are one, and none is of those.
func checkApart(t *testing.T, what string, answer any, others []room) {
	t.Helper()
	all := append(allRooms(answer), others...)
	own := len(all) - len(others)
	order := make([]int, len(all))
	for n := range order {
		order[n] = n
	}
	slices.SortFunc(order, func(a, b int) int { return int(all[a].from) - int(all[b].from) })
	last := 0
	for n := range order[1:] {
		a, b := order[last], order[n+1]
		if all[a].meets(all[b]) && (a < own || b < own) {
			t.Fatalf("P14.6: %.2000s: the answer shares memory", what)
		}
		if all[b].to > all[a].to {
			last = n + 1
		}
	}
}

// withSpare: the same value, each of its lists and texts in memory of its own, with something in the room behind a list's end.
func withSpare[T any](value T) T {
	return copied(reflect.ValueOf(value)).Interface().(T)
}

func copied(v reflect.Value) reflect.Value {
	out := reflect.New(v.Type()).Elem()
	out.Set(v)
	switch v.Kind() {
	case reflect.Struct:
		for n := range v.NumField() {
			out.Field(n).Set(copied(v.Field(n)))
		}
	case reflect.String:
		out.SetString(strings.Clone(v.String()))
	case reflect.Slice:
		full := reflect.MakeSlice(v.Type(), v.Len()+3, v.Len()+3)
		for n := range full.Len() {
			if n < v.Len() {
				full.Index(n).Set(copied(v.Index(n)))
			} else {
				fill(full.Index(n))
			}
		}
		out.Set(full.Slice(0, v.Len()))
	}
	return out
}

// fill writes something into an element that no call is to see.
func fill(v reflect.Value) {
	switch v.Kind() {
	case reflect.Struct:
		for n := range v.NumField() {
			fill(v.Field(n))
		}
	case reflect.Slice:
		v.Set(reflect.MakeSlice(v.Type(), 1, 1))
	case reflect.String:
		v.SetString("spare")
	case reflect.Bool:
		v.SetBool(true)
	case reflect.Int:
		v.SetInt(99)
	}
}

// opened: a copy of the value in which what lies behind its lists' ends is part of them.
func opened(v reflect.Value) reflect.Value {
	out := reflect.New(v.Type()).Elem()
	switch v.Kind() {
	case reflect.Struct:
		for n := range v.NumField() {
			out.Field(n).Set(opened(v.Field(n)))
		}
	case reflect.Slice:
		all := v.Slice(0, v.Cap())
		for n := range all.Len() {
			out.Set(reflect.Append(out, opened(all.Index(n))))
		}
	default:
		out.Set(v)
	}
	return out
}

// given: all that the calls are handed.
type given struct {
	N              api.Net
	Where, Pattern string
}

func (a asking) given() given { return given{a.n, a.where, a.pattern} }

// spread: something to ask, with something behind every list's end.
func (s *source) spread() asking {
	a := s.asking(s.small())
	a.n, a.where, a.pattern, a.budget = withSpare(a.n), strings.Clone(a.where), strings.Clone(a.pattern), api.MaxBudget
	return a
}

// list: both answers.
func (a asking) list() []api.Answer {
	found, _ := a.find()
	avoided, _ := a.avoid()
	return []api.Answer{found, avoided}
}

func TestAnswersAreNewMemory(t *testing.T) {
	s := source(41)
	for range 600 {
		a := s.spread()
		first, second := a.list(), a.list()
		checkApart(t, a.String(), first, allRooms(second, a.given()))
		if !reflect.DeepEqual(first, second) {
			t.Fatalf("W2: %v: another answer: %v, %v", a, first, second)
		}
	}
}

// What is asked about has the text that is answered, and its memory is another one.
func TestTheSpaceIsANewText(t *testing.T) {
	for _, bits := range []int{2, 64, 256} {
		n := withSpare(plain(bits, send([]string{x(bits)}, 2)))
		for _, where := range []string{x(bits) + "-1" + x(bits-1), many(bits, "1")} {
			where = strings.Clone(where)
			for _, pattern := range []string{"R.a", ".* R.c", ".* R.b"} {
				a, errno := trail.Find(n, 0, where, pattern, 3, 20)
				if errno != api.OK || a.Space != where {
					t.Fatalf("P14.4: %s", text(a, errno))
				}
				checkApart(t, text(a, errno), a, allRooms(where, n))
			}
			for to := range 3 {
				a, errno := trail.Avoid(n, 0, to, where, "", 3, 20)
				if errno != api.OK || a.Space != where {
					t.Fatalf("P14.5: %s", text(a, errno))
				}
				checkApart(t, text(a, errno), a, allRooms(where, n))
			}
		}
	}
}

// The text that a pattern tells shares no memory with the one that was read, nor with another one that it tells.
func TestTextsAreNewMemory(t *testing.T) {
	s := source(42)
	for range 500 {
		text := strings.Clone("FW " + s.legal(5, s.leaves("a", "b.c", "FW")))
		if refusedAt(text) >= 0 || len(text) > api.MaxPattern {
			continue
		}
		p := compiled(t, text)
		first, second := p.Text(), p.Text()
		checkApart(t, text, first, allRooms(second, text, compiled(t, text).Text()))
	}
}

// What is handed in is not kept: the bytes of a text may become others later.
func TestTheTextThatWasReadIsNotKept(t *testing.T) {
	bytes := []byte("R1 !R2.b* (FW | R3)+")
	p := compiled(t, unsafe.String(&bytes[0], len(bytes)))
	clear(bytes)
	check(t, "P14.6", p.Text(), "R1 !R2.b* (FW | R3)+")
	if !p.Match([]string{"R1.a", "R2.a", "FW.b"}) || p.Match([]string{"R1.a", "R2.b", "FW.b"}) || p.Match([]string{"R1.a", "R2.a"}) {
		t.Error("P14.6: the pattern means other lists")
	}
}

// wipe writes over a list and its spare room.
func wipe(list []int) {
	for at := range list[:cap(list)] {
		list[:cap(list)][at] = 99
	}
}

// What the caller writes into an answer comes back in no other one.
func TestAnswersAreTheCallersOwn(t *testing.T) {
	s := source(43)
	for range 300 {
		a := s.spread()
		was := a.list()
		kept := fmt.Sprint(was)
		for _, answer := range a.list() {
			wipe(answer.Ports)
			if strings.Contains(fmt.Sprint(answer.Entries), "99") {
				t.Fatalf("P14.6: %v: the lists of an answer share memory", a)
			}
			wipe(answer.Entries)
		}
		if now := a.list(); !reflect.DeepEqual(now, was) || fmt.Sprint(was) != kept {
			t.Fatalf("P14.6: %v: %v; was %s", a, now, kept)
		}
	}
}

func TestArgumentsStayAsTheyWere(t *testing.T) {
	s := source(44)
	for k := range 500 {
		a := s.spread()
		if k%5 == 0 {
			a.n.Bits++
		}
		was := opened(reflect.ValueOf(a.given())).Interface()
		a.list()
		if now := opened(reflect.ValueOf(a.given())).Interface(); !reflect.DeepEqual(now, was) {
			t.Fatalf("P14.6: what was handed in is other behind the calls: %+v, was %+v", now, was)
		}
		names := withSpare(s.names([]string{"R1.a", "R.b", "FW.c"}, s.below(6)))
		held := opened(reflect.ValueOf(names)).Interface()
		p := compiled(t, s.legal(5, s.leaves("R1", "R.b", "FW")))
		p.Match(names)
		if now := opened(reflect.ValueOf(names)).Interface(); !reflect.DeepEqual(now, held) {
			t.Fatalf("P14.6: the names are other behind Match: %q, were %q", now, held)
		}
	}
}

// Nothing is kept: the same calls in another order, and over another network of the same lists.
func TestNothingIsKept(t *testing.T) {
	s := source(45)
	for range 150 {
		a, b := s.spread(), s.spread()
		first := fmt.Sprint(a.list(), b.list())
		again := fmt.Sprint(b.list())
		if now := fmt.Sprint(a.list()) + " " + again; now != first {
			t.Fatalf("W2: %v: %s; was %s", a, now, first)
		}
		other := a
		other.n = withSpare(a.n)
		a.n.Ports[a.from].Name, other.n.Ports[a.from].Name = "FW.other", "FW.other"
		if now, want := fmt.Sprint(a.list()), fmt.Sprint(other.list()); now != want {
			t.Fatalf("W2: %v: a name was written over: %s; want %s", a, now, want)
		}
	}
}

// Many calls at the same time over one network: the answers are always the same ones.
func TestManyQuestionsAtTheSameTime(t *testing.T) {
	s := source(46)
	for range 20 {
		a := s.spread()
		was := a.list()
		answers := make([][]api.Answer, 16)
		var work sync.WaitGroup
		for at := range answers {
			work.Go(func() { answers[at] = a.list() })
		}
		work.Wait()
		for _, now := range answers {
			if !reflect.DeepEqual(now, was) {
				t.Fatalf("W2: %v: %v; was %v", a, now, was)
			}
		}
	}
}
