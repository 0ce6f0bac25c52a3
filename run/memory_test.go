package run_test

// P17.6, W2, W6: what is answered is new memory, and what is asked ahead changes nothing.

import (
	"errors"
	"fmt"
	"reflect"
	"slices"
	"sync"
	"testing"

	"reach/api"
	"reach/run"
)

// room is a piece of memory.
type room struct{ from, to uintptr }

// roomsOf: the memory of all lists of a value, spare room too.
func roomsOf(v reflect.Value) []room {
	var rooms []room
	switch v.Kind() {
	case reflect.Struct:
		for n := range v.NumField() {
			rooms = append(rooms, roomsOf(v.Field(n))...)
		}
	case reflect.Slice:
		if v.Cap() > 0 {
			rooms = append(rooms, room{v.Pointer(), v.Pointer() + uintptr(v.Cap())*v.Type().Elem().Size()})
		}
		for n := range v.Len() {
			rooms = append(rooms, roomsOf(v.Index(n))...)
		}
	}
	return rooms
}

// checkApart: no two lists of these values share memory.
func checkApart(t *testing.T, what string, values ...any) {
	t.Helper()
	var all []room
	for _, v := range values {
		all = append(all, roomsOf(reflect.ValueOf(v))...)
	}
	slices.SortFunc(all, func(a, b room) int { return int(a.from) - int(b.from) })
	for n := 1; n < len(all); n++ {
		if all[n].from < all[n-1].to {
			t.Fatalf("P17.6: %s: two lists share memory", what)
		}
	}
}

// answered: all that is answered of two texts.
type answered struct {
	Result  api.Result
	Replies []api.Reply
	Asks    []api.Ask
}

func answers(config, query string) answered {
	list, _ := run.Do(config, query)
	asks, _, _, _ := run.Parse(query)
	return answered{run.Run(config, query), list, asks}
}

// spoil writes over all lists of a value, spare room too.
func spoil(v reflect.Value) {
	switch v.Kind() {
	case reflect.Struct:
		for n := range v.NumField() {
			spoil(v.Field(n))
		}
	case reflect.Slice:
		all := v.Slice(0, v.Cap())
		for n := range all.Len() {
			spoil(all.Index(n))
			all.Index(n).SetZero()
		}
	}
}

// trial: the texts of a network and of queries about it, every kind of refusal among them.
func (s *source) trial(t *testing.T) (config, query string) {
	t.Helper()
	c := s.network(t)
	config, query = printed(t, c), s.queries(c)
	switch s.below(8) {
	case 0:
		query = s.mutilated(query)
	case 1:
		config = s.torn(config)
	}
	return config, query
}

func TestAnswersAreNewMemory(t *testing.T) {
	s := source(71)
	replies := 0
	for range 200 {
		config, query := s.trial(t)
		first, second := answers(config, query), answers(config, query)
		checkApart(t, query, first, second)
		if !reflect.DeepEqual(first, second) {
			t.Fatalf("W2: %q of %q: another answer: %+v, %+v", query, config, first, second)
		}
		replies += len(first.Replies)
		spoil(reflect.ValueOf(&second).Elem())
		if third := answers(config, query); !reflect.DeepEqual(first, third) {
			t.Fatalf("P17.6: %q of %q: %+v; was %+v", query, config, third, first)
		}
	}
	if replies < 300 {
		t.Errorf("the trial shows less than it should: %d", replies)
	}
}

// A fault is new each time.
func TestFaultsAreNew(t *testing.T) {
	for _, query := range []string{"bogus", "loop Z.a where any hops 1", "budget 1\nlost A.a where any hops 4"} {
		_, err := run.Do(labText, query)
		var first, second *api.Fault
		if !errors.As(err, &first) {
			t.Fatalf("P17.4: %v", err)
		}
		want := fmt.Sprint(*first)
		*first = api.Fault{Why: api.WhyState, Code: 99, Text: 9, Line: 9}
		_, err = run.Do(labText, query)
		if !errors.As(err, &second) || first == second || fmt.Sprint(*second) != want {
			t.Errorf("P17.6: %q: %v; was %s", query, err, want)
		}
	}
}

// What is asked ahead changes nothing.
func TestNothingIsKept(t *testing.T) {
	s := source(72)
	for range 100 {
		config, query := s.trial(t)
		was := answers(config, query)
		for range 3 {
			answers(s.trial(t))
		}
		_, other := s.trial(t)
		answers(config, other)
		if now := answers(config, query); !reflect.DeepEqual(now, was) {
			t.Fatalf("W2: %q of %q: %+v; was %+v", query, config, now, was)
		}
	}
}

func TestManyAtTheSameTime(t *testing.T) {
	s := source(73)
	for range 15 {
		config, query := s.trial(t)
		was := answers(config, query)
		list := make([]answered, 12)
		var work sync.WaitGroup
		for at := range list {
			work.Go(func() { list[at] = answers(config, query) })
		}
		work.Wait()
		for _, now := range list {
			if !reflect.DeepEqual(now, was) {
				t.Fatalf("W2: %q of %q: %+v; was %+v", query, config, now, was)
			}
		}
		checkApart(t, query, list)
	}
}
