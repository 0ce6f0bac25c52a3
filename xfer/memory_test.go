package xfer_test

import (
	"reflect"
	"slices"
	"strings"
	"sync"
	"testing"
	"unsafe"

	"reach/api"
	"reach/space"
	"reach/xfer"
)

// room is a piece of memory.
type room struct{ from, to uintptr }

func (r room) meets(other room) bool { return r.from < other.to && other.from < r.to }

// roomsOf: the memory of all lists of a value, spare room too, and of all its texts.
func roomsOf(v reflect.Value) []room {
	var rooms []room
	switch v.Kind() {
	case reflect.Struct:
		// A space is a value: nothing changes it, so it does not matter what it shares.
		if v.Type() == reflect.TypeFor[space.Space]() {
			return nil
		}
		for n := range v.NumField() {
			rooms = append(rooms, roomsOf(v.Field(n))...)
		}
	case reflect.Slice:
		if v.Cap() > 0 {
			rooms = append(rooms, room{v.Pointer(), v.Pointer() + uintptr(v.Cap())*v.Type().Elem().Size()})
		}
		for n := range v.Len() {
			rooms = append(rooms, roomsOf(v.Index(n))...)
		}
	case reflect.String:
		// A text of one byte may stand in memory that belongs to no one: the runtime has all of them.
		if v.Len() > 1 {
			from := uintptr(unsafe.Pointer(unsafe.StringData(v.String())))
			rooms = append(rooms, room{from, from + uintptr(v.Len())})
		}
	}
	return rooms
}

func allRooms(values ...any) []room {
	var all []room
	for _, v := range values {
		all = append(all, roomsOf(reflect.ValueOf(v))...)
	}
	return all
}

// checkApart: no two pieces of the answer's memory are one, and none is of those.
func checkApart(t *testing.T, what string, answer any, others []room) {
	t.Helper()
	all := append(allRooms(answer), others...)
	own := len(all) - len(others)
	order := make([]int, len(all))
	for n := range order {
		order[n] = n
	}
	slices.SortFunc(order, func(a, b int) int { return int(all[a].from) - int(all[b].from) })
	last := 0
	for n := range order[1:] {
		a, b := order[last], order[n+1]
		if all[a].meets(all[b]) && (a < own || b < own) {
			t.Fatalf("W6: %.2000s: the answer shares memory", what)
		}
		if all[b].to > all[a].to {
			last = n + 1
		}
	}
}

// withSpare: the same value, each of its lists and texts in memory of its own, with something in the room behind a list's end.
func withSpare[T any](value T) T {
	return copied(reflect.ValueOf(value)).Interface().(T)
}

func copied(v reflect.Value) reflect.Value {
	out := reflect.New(v.Type()).Elem()
	out.Set(v)
	switch v.Kind() {
	case reflect.Struct:
		for n := range v.NumField() {
			out.Field(n).Set(copied(v.Field(n)))
		}
	case reflect.String:
		out.SetString(strings.Clone(v.String()))
	case reflect.Slice:
		full := reflect.MakeSlice(v.Type(), v.Len()+3, v.Len()+3)
		for n := range full.Len() {
			if n < v.Len() {
				full.Index(n).Set(copied(v.Index(n)))
			} else {
				fill(full.Index(n))
			}
		}
		out.Set(full.Slice(0, v.Len()))
	}
	return out
}

// fill writes something into an element that no call is to see.
func fill(v reflect.Value) {
	switch v.Kind() {
	case reflect.Struct:
		for n := range v.NumField() {
			fill(v.Field(n))
		}
	case reflect.Slice:
		v.Set(reflect.MakeSlice(v.Type(), 1, 1))
	case reflect.String:
		v.SetString("spare")
	case reflect.Bool:
		v.SetBool(true)
	case reflect.Int:
		v.SetInt(99)
	}
}

// opened: a copy of the value in which what lies behind its lists' ends is part of them.
func opened(v reflect.Value) reflect.Value {
	out := reflect.New(v.Type()).Elem()
	switch v.Kind() {
	case reflect.Struct:
		for n := range v.NumField() {
			out.Field(n).Set(opened(v.Field(n)))
		}
	case reflect.Slice:
		all := v.Slice(0, v.Cap())
		for n := range all.Len() {
			out.Set(reflect.Append(out, opened(all.Index(n))))
		}
	default:
		out.Set(v)
	}
	return out
}

// answers: all that the calls answer, at all ports, with one space.
type answers struct {
	Hits, Parts      [][]xfer.Part
	Gone             []space.Space
	Forward, Inverse [][]xfer.Image
}

func answersOf(f *xfer.Transfer, ports int, s space.Space) answers {
	var a answers
	for port := range ports {
		h, _ := f.Hits(port)
		p, _ := f.Parts(port)
		g, _ := f.Gone(port)
		to, _ := f.Forward(port, s)
		from, _ := f.Inverse(port, s)
		a.Hits, a.Parts, a.Gone = append(a.Hits, h), append(a.Parts, p), append(a.Gone, g)
		a.Forward, a.Inverse = append(a.Forward, to), append(a.Inverse, from)
	}
	return a
}

func (a answers) text() string {
	var texts []string
	for port := range a.Hits {
		texts = append(texts, partsText(a.Hits[port]), partsText(a.Parts[port]), a.Gone[port].Text(), imagesText(a.Forward[port]), imagesText(a.Inverse[port]))
	}
	return strings.Join(texts, "\n")
}

// spread: a mixed network with something behind every list's end, its transfer functions, and the space of all headers.
func (s *source) spread(t *testing.T) (api.Net, *xfer.Transfer, space.Space) {
	t.Helper()
	n := withSpare(s.net(s.small()))
	return n, made(t, n), read(t, n.Bits, x(n.Bits))
}

func TestAnswersAreNewMemory(t *testing.T) {
	s := source(41)
	for range 200 {
		n, f, all := s.spread(t)
		first, second := answersOf(f, len(n.Ports), all), answersOf(f, len(n.Ports), all)
		checkApart(t, "P11.8: all calls", first, allRooms(second, n))
		if first.text() != second.text() {
			t.Fatalf("W2: another answer: %s, %s", first.text(), second.text())
		}
	}
}

// wipe writes over a list and its spare room.
func wipe[T any](list []T) {
	var zero T
	for at := range list[:cap(list)] {
		list[:cap(list)][at] = zero
	}
}

// What the caller writes into an answer, its spare room too, does not come back.
func TestAnswersAreTheCallersOwn(t *testing.T) {
	s := source(42)
	for range 200 {
		n, f, all := s.spread(t)
		was := answersOf(f, len(n.Ports), all).text()
		mine := answersOf(f, len(n.Ports), all)
		for port := range n.Ports {
			wipe(mine.Hits[port])
			wipe(mine.Parts[port])
			wipe(mine.Forward[port])
			wipe(mine.Inverse[port])
		}
		if now := answersOf(f, len(n.Ports), all).text(); now != was {
			t.Fatalf("P11.8: %s; was %s", now, was)
		}
	}
}

// rewrite makes other numbers of a network's lists, in place, their spare room too.
func rewrite(v reflect.Value) {
	switch v.Kind() {
	case reflect.Struct:
		for n := range v.NumField() {
			rewrite(v.Field(n))
		}
	case reflect.Slice:
		all := v.Slice(0, v.Cap())
		for n := range all.Len() {
			rewrite(all.Index(n))
		}
	default:
		if v.CanSet() {
			fill(v)
		}
	}
}

func TestListsThatAreWrittenOverLater(t *testing.T) {
	s := source(43)
	for range 200 {
		n, f, all := s.spread(t)
		was := answersOf(f, len(n.Ports), all).text()
		rewrite(reflect.ValueOf(n))
		if now := answersOf(f, len(n.Ports), all).text(); now != was {
			t.Fatalf("P11.1: the lists were written over: %s; was %s", now, was)
		}
	}
}

func TestArgumentsStayAsTheyWere(t *testing.T) {
	s := source(44)
	for k := range 200 {
		n := withSpare(s.net(s.small()))
		if k%5 == 0 {
			n.Bits++
		}
		was := opened(reflect.ValueOf(n)).Interface()
		f, _ := xfer.New(n)
		answersOf(f, len(n.Ports), space.None(n.Bits))
		if now := opened(reflect.ValueOf(n)).Interface(); !reflect.DeepEqual(now, was) {
			t.Fatalf("W6: what was handed in is other behind the calls: %+v, was %+v", now, was)
		}
	}
}

// Many New at the same time over one network, and many calls of one Transfer: the answers are always the same ones.
func TestManyAtTheSameTime(t *testing.T) {
	s := source(45)
	for range 10 {
		n, f, all := s.spread(t)
		was := answersOf(f, len(n.Ports), all).text()
		var work sync.WaitGroup
		texts := make([]string, 40)
		for at := range texts {
			work.Go(func() {
				mine := f
				if at%2 == 0 {
					mine, _ = xfer.New(n)
				}
				texts[at] = answersOf(mine, len(n.Ports), all).text()
			})
		}
		work.Wait()
		for _, text := range texts {
			if text != was {
				t.Fatalf("W2: %s; was %s", text, was)
			}
		}
	}
}
