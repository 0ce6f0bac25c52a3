package conf_test

import (
	"reflect"
	"slices"
	"strings"
	"testing"
	"unsafe"

	"reach/api"
	"reach/conf"
)

// room is a piece of memory.
type room struct{ from, to uintptr }

func (r room) meets(other room) bool { return r.from < other.to && other.from < r.to }

func roomOf(text string) room {
	from := uintptr(unsafe.Pointer(unsafe.StringData(text)))
	return room{from, from + uintptr(len(text))}
}

// roomsOf: the memory of all lists of a value, spare room too, and of all its texts.
func roomsOf(v reflect.Value) (lists, texts []room) {
	switch v.Kind() {
	case reflect.Struct:
		for n := range v.NumField() {
			l, s := roomsOf(v.Field(n))
			lists, texts = append(lists, l...), append(texts, s...)
		}
	case reflect.Slice:
		if v.Cap() > 0 {
			lists = append(lists, room{v.Pointer(), v.Pointer() + uintptr(v.Cap())*v.Type().Elem().Size()})
		}
		for n := range v.Len() {
			l, s := roomsOf(v.Index(n))
			lists, texts = append(lists, l...), append(texts, s...)
		}
	case reflect.String:
		// A text of one byte may stand in memory that belongs to no one: the runtime has all of them.
		if v.Len() > 1 {
			texts = append(texts, roomOf(v.String()))
		}
	}
	return lists, texts
}

// checkApart: no two lists of an answer share memory, and none of its memory is of those.
func checkApart(t *testing.T, what string, answer api.Config, others []room) {
	t.Helper()
	lists, texts := roomsOf(reflect.ValueOf(answer))
	for n, r := range lists {
		if slices.ContainsFunc(lists[:n], r.meets) {
			t.Fatalf("P6.7: %s: two lists share memory", what)
		}
	}
	for _, r := range append(lists, texts...) {
		if slices.ContainsFunc(others, r.meets) {
			t.Fatalf("P6.7: %s: the answer shares memory with another", what)
		}
	}
}

func TestParseAnswersNewMemory(t *testing.T) {
	s := source(68)
	for range 300 {
		text := strings.Clone(s.text(false))
		first, _, _ := conf.Parse(text)
		second, _, _ := conf.Parse(text)
		lists, texts := roomsOf(reflect.ValueOf(second))
		checkApart(t, "Parse", first, slices.Concat(lists, texts, []room{roomOf(text)}))
	}
}

// kept: a network with something everywhere, its names of more than one byte, so that their memory can be told.
func kept() api.Config {
	c, _, _ := conf.Parse("network \"title\"\nheader ff:5 gg:6\nrouting ff slim\nbox BB\nin aa bb\nout cc dd\nguard aa permit ff = %01\nguard cc deny any\nrule 5 from aa bb match ff = 1/2 & !any set ff = 1, gg = 2 to cc, dd\nrule 6 match none drop\nown 1/2 to cc\nroute 3/4 to dd\nbox CC\nlink BB.cc -> CC.aa cost 7\nlink BB.dd -> BB.aa\nslice ss BB.aa CC.bb where ff = %0x")
	return c
}

// edits are lines that kept takes, of each form.
var edits = []string{
	"box EE", "link CC.aa -> BB.aa", "slice ee BB.aa CC.bb where ff = %01", "at BB in ee ff", "at BB out ee", "at BB guard aa permit ff = %01", "at BB rule 7 from aa bb match gg = 1 set aa = 1, bb = 2 to cc, dd", "at BB own 5/7 to aa", "at CC route 5/7 to aa",
	"no box BB", "no box CC", "no link BB.cc", "no slice ss", "no at BB in aa", "no at BB out cc", "no at BB guard aa", "no at BB rule 5", "no at BB own 1/2", "no at BB route 3/4",
}

func TestEditAnswersNewMemory(t *testing.T) {
	for _, line := range edits {
		c, line := withSpare(kept()), strings.Clone(line)
		first, errno := conf.Edit(c, line)
		second, _ := conf.Edit(c, line)
		if errno != api.OK {
			t.Errorf("P6.5: Edit by %q: %d", line, errno)
		}
		lists, texts := roomsOf(reflect.ValueOf(second))
		more, words := roomsOf(reflect.ValueOf(c))
		checkApart(t, line, first, slices.Concat(lists, texts, more, words, []room{roomOf(line)}))
	}
}

// withSpare: the same network with something in the room behind each list's end.
func withSpare(c api.Config) api.Config {
	c = cloned(c)
	var fill func(v reflect.Value)
	fill = func(v reflect.Value) {
		switch v.Kind() {
		case reflect.Struct:
			for n := range v.NumField() {
				fill(v.Field(n))
			}
		case reflect.Slice:
			for n := range v.Len() {
				fill(v.Index(n))
			}
			full := reflect.MakeSlice(v.Type(), v.Len()+3, v.Len()+3)
			reflect.Copy(full, v)
			for n := v.Len(); n < full.Len(); n++ {
				spare(full.Index(n))
			}
			v.Set(full.Slice(0, v.Len()))
		}
	}
	fill(reflect.ValueOf(&c).Elem())
	return c
}

// spare writes something into an element that no call is to see.
func spare(v reflect.Value) {
	switch v.Kind() {
	case reflect.Struct:
		for n := range v.NumField() {
			spare(v.Field(n))
		}
	case reflect.String:
		v.SetString("spare")
	case reflect.Int:
		v.SetInt(99)
	}
}

// opened: the same network, what lies behind its lists' ends made part of them.
func opened(c api.Config) api.Config {
	var open func(v reflect.Value) reflect.Value
	open = func(v reflect.Value) reflect.Value {
		out := reflect.New(v.Type()).Elem()
		switch v.Kind() {
		case reflect.Struct:
			for n := range v.NumField() {
				out.Field(n).Set(open(v.Field(n)))
			}
		case reflect.Slice:
			all := v.Slice(0, v.Cap())
			for n := range all.Len() {
				out.Set(reflect.Append(out, open(all.Index(n))))
			}
		default:
			out.Set(v)
		}
		return out
	}
	return open(reflect.ValueOf(c)).Interface().(api.Config)
}

// What is handed in stays as it was, what lies behind its lists' ends too.
func TestArgumentsStayAsTheyWere(t *testing.T) {
	s := source(69)
	check := func(c, d api.Config, line string) {
		was, other := opened(c), opened(d)
		conf.Edit(c, line)
		conf.Print(c)
		conf.Same(c, d)
		conf.Same(d, c)
		if !reflect.DeepEqual(opened(c), was) || !reflect.DeepEqual(opened(d), other) {
			t.Fatalf("P6.7: the network is another behind Edit by %q, Print and Same: %+v", line, c)
		}
	}
	for _, line := range edits {
		turned := kept()
		slices.Reverse(turned.Boxes[0].Rules)
		slices.Reverse(turned.Boxes[0].Rules[1].From)
		slices.Reverse(turned.Links)
		check(withSpare(kept()), withSpare(turned), line)
	}
	for range 1000 {
		c := withSpare(s.network())
		check(c, c, s.edit())
	}
}

// An answer that the caller writes over does not come back.
func TestAnswersAreTheCallersOwn(t *testing.T) {
	for _, line := range edits {
		c := kept()
		first, _ := conf.Edit(c, line)
		want := cloned(first)
		spots(reflect.ValueOf(&first).Elem(), "", func(spot reflect.Value, _ string) {
			if spot.Kind() == reflect.Slice {
				all := spot.Slice(0, spot.Cap())
				for n := range all.Len() {
					all.Index(n).SetZero()
				}
			}
		})
		if again, _ := conf.Edit(c, line); !equal(again, want) || !equal(c, kept()) {
			t.Errorf("P6.7: Edit by %q, once more: %+v; want %+v", line, again, want)
		}
	}
}
