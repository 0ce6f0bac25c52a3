package model_test

import (
	"reflect"
	"slices"
	"strings"
	"testing"
	"unsafe"

	"reach/api"
	"reach/model"
)

// room is a piece of memory.
type room struct{ from, to uintptr }

func (r room) meets(other room) bool { return r.from < other.to && other.from < r.to }

func roomOf(text string) room {
	from := uintptr(unsafe.Pointer(unsafe.StringData(text)))
	return room{from, from + uintptr(len(text))}
}

// roomsOf: the memory of all lists of a value, spare room too, and of all its texts.
func roomsOf(v reflect.Value) (lists, texts []room) {
	switch v.Kind() {
	case reflect.Struct:
		for n := range v.NumField() {
			l, s := roomsOf(v.Field(n))
			lists, texts = append(lists, l...), append(texts, s...)
		}
	case reflect.Slice:
		if v.Cap() > 0 {
			lists = append(lists, room{v.Pointer(), v.Pointer() + uintptr(v.Cap())*v.Type().Elem().Size()})
		}
		for n := range v.Len() {
			l, s := roomsOf(v.Index(n))
			lists, texts = append(lists, l...), append(texts, s...)
		}
	case reflect.String:
		// A text of one byte may stand in memory that belongs to no one: the runtime has all of them.
		if v.Len() > 1 {
			texts = append(texts, roomOf(v.String()))
		}
	}
	return lists, texts
}

func allRooms(values ...any) []room {
	var all []room
	for _, v := range values {
		lists, texts := roomsOf(reflect.ValueOf(v))
		all = slices.Concat(all, lists, texts)
	}
	return all
}

// checkApart: no two pieces of the answer's memory are one, and none is of those.
func checkApart(t *testing.T, what string, answer any, others []room) {
	t.Helper()
	all := allRooms(answer)
	for n, r := range all {
		if slices.ContainsFunc(all[:n], r.meets) || slices.ContainsFunc(others, r.meets) {
			t.Fatalf("P7.7: %s: the answer shares memory", what)
		}
	}
}

// answers: all that the calls answer on a network.
type answers struct {
	Told  string
	Ports []api.Port
	Edges []api.Edge
	Zones []api.Zone
}

func answersOf(c api.Config, slices ...string) answers {
	var a answers
	_, a.Told = model.Check(c)
	a.Ports, _ = model.Ports(c)
	a.Edges, _ = model.Edges(c)
	for _, name := range slices {
		zone, _ := model.Zone(c, name)
		a.Zones = append(a.Zones, zone)
		model.Find(c, name)
	}
	return a
}

func TestAnswersAreNewMemory(t *testing.T) {
	c := withSpare(parsed(t, "header ff:5 gg:6\nrouting ff\nbox BB\nin aa bb\nout cc dd\nbox CC\nin aa\nlink BB.cc -> CC.aa\nlink BB.dd -> BB.aa\nslice red BB.aa CC.aa where ff = 1\nslice blue BB.bb where ff = 1 | gg = 2"))
	names := []string{strings.Clone("red"), strings.Clone("blue"), strings.Clone("red")}
	first, second := answersOf(c, names...), answersOf(c, names...)
	if len(first.Ports) != 5 || len(first.Edges) != 2 || len(first.Zones[0].Ports) != 2 {
		t.Fatalf("P7.3 to P7.6: %+v", first)
	}
	checkApart(t, "Ports, Edges and Zone", first, allRooms(second, c, names))
}

// What is told of an offence may be a name of the network; its memory is new all the same.
func TestWhatIsToldIsNewMemory(t *testing.T) {
	for _, d := range damages() {
		c := plain(t)
		d.do(&c)
		_, told := model.Check(c)
		_, again := model.Check(c)
		if told != again {
			t.Errorf("W2: %s: %q, then %q", d.of, told, again)
		}
		checkApart(t, d.of, told, allRooms(again, c))
	}
}

// withSpare: the same network with something in the room behind each list's end.
func withSpare(c api.Config) api.Config {
	c = cloned(c)
	var fill func(v reflect.Value)
	fill = func(v reflect.Value) {
		switch v.Kind() {
		case reflect.Struct:
			for n := range v.NumField() {
				fill(v.Field(n))
			}
		case reflect.Slice:
			for n := range v.Len() {
				fill(v.Index(n))
			}
			full := reflect.MakeSlice(v.Type(), v.Len()+3, v.Len()+3)
			reflect.Copy(full, v)
			for n := v.Len(); n < full.Len(); n++ {
				spare(full.Index(n))
			}
			v.Set(full.Slice(0, v.Len()))
		}
	}
	fill(reflect.ValueOf(&c).Elem())
	return c
}

// spare writes something into an element that no call is to see.
func spare(v reflect.Value) {
	switch v.Kind() {
	case reflect.Struct:
		for n := range v.NumField() {
			spare(v.Field(n))
		}
	case reflect.String:
		v.SetString("spare")
	case reflect.Int:
		v.SetInt(99)
	}
}

// opened: the same network, what lies behind its lists' ends made part of them.
func opened(c api.Config) api.Config {
	var open func(v reflect.Value) reflect.Value
	open = func(v reflect.Value) reflect.Value {
		out := reflect.New(v.Type()).Elem()
		switch v.Kind() {
		case reflect.Struct:
			for n := range v.NumField() {
				out.Field(n).Set(open(v.Field(n)))
			}
		case reflect.Slice:
			all := v.Slice(0, v.Cap())
			for n := range all.Len() {
				out.Set(reflect.Append(out, open(all.Index(n))))
			}
		default:
			out.Set(v)
		}
		return out
	}
	return open(reflect.ValueOf(c)).Interface().(api.Config)
}

func TestArgumentsStayAsTheyWere(t *testing.T) {
	s := source(77)
	for n := range 500 {
		c := s.network(1 + n%8)
		if n%2 == 0 {
			c = s.damaged(c)
		}
		c = withSpare(c)
		was := opened(c)
		answersOf(c, "s0", "a")
		if !reflect.DeepEqual(opened(c), was) {
			t.Fatalf("P7.7: the network is another behind the calls: %+v", c)
		}
	}
}

// What the caller writes into an answer does not come back.
func TestAnswersAreTheCallersOwn(t *testing.T) {
	c := atTheLimits()
	want := answersOf(c, "s0", "s1")
	got := answersOf(c, "s0", "s1")
	spots(reflect.ValueOf(&got).Elem(), "", func(spot reflect.Value, _ string) {
		if spot.Kind() == reflect.Slice {
			all := spot.Slice(0, spot.Cap())
			for n := range all.Len() {
				all.Index(n).SetZero()
			}
		}
	})
	if again := answersOf(c, "s0", "s1"); !equal(again, want) {
		t.Errorf("P7.7: the answers are others now: %+v", again)
	}
}

// Networks of any size and of any texts are answered, and soon.
func TestGreatNetworks(t *testing.T) {
	long := strings.Repeat("a\xff.", 1<<20)
	names := many(200000, func(int) string { return "zz" })
	nodes := make([]api.Node, 200000)
	for _, x := range []struct {
		of    string
		do    func(c *api.Config)
		errno api.Errno
		told  string
	}{
		{"a long title", func(c *api.Config) { c.Title = long }, api.ErrCount, "network"},
		{"many fields", func(c *api.Config) { c.Fields = make([]api.Field, 200000) }, api.ErrLayout, ""},
		{"a long field", func(c *api.Config) { c.Fields[2].Name = long }, api.ErrLayout, long},
		{"a long routing", func(c *api.Config) { c.Routing = long }, api.ErrUnknown, long},
		{"many boxes", func(c *api.Config) { c.Boxes = make([]api.Box, 200000) }, api.ErrCount, "boxes"},
		{"many ports", func(c *api.Config) { c.Boxes[1].Outs = names }, api.ErrCount, "ports"},
		{"many guards", func(c *api.Config) { c.Boxes[1].Guards = make([]api.Line, 200000) }, api.ErrCount, "guards"},
		{"many rules", func(c *api.Config) { c.Boxes[1].Rules = make([]api.Rule, 200000) }, api.ErrCount, "rules"},
		{"many routes", func(c *api.Config) { c.Boxes[1].Routes = make([]api.Prefix, 200000) }, api.ErrCount, "routes"},
		{"many links", func(c *api.Config) { c.Links = make([]api.Link, 200000) }, api.ErrCount, "links"},
		{"many slices", func(c *api.Config) { c.Slices = make([]api.Slice, 200000) }, api.ErrCount, "slices"},
		{"a long box", func(c *api.Config) { c.Boxes[1].Name = long }, api.ErrName, long},
		{"a long port", func(c *api.Config) { c.Boxes[1].Ins[0] = long }, api.ErrName, "R2." + long},
		{"a long guard", func(c *api.Config) { c.Boxes[0].Guards[0].Port = long }, api.ErrUnknown, "R1 guard " + long},
		{"a great match", func(c *api.Config) { c.Boxes[0].Guards[0].Match = nodes }, api.ErrMatch, "R1 guard a"},
		{"from many", func(c *api.Config) { c.Boxes[0].Rules[0].From = names }, api.ErrUnknown, "R1 rule 5"},
		{"many sets", func(c *api.Config) { c.Boxes[0].Rules[0].Sets = make([]api.Set, 200000) }, api.ErrSets, "R1 rule 5"},
		{"to many", func(c *api.Config) { c.Boxes[0].Rules[0].To = names }, api.ErrCount, "R1 rule 5"},
		{"the least priority", func(c *api.Config) { c.Boxes[0].Rules[0].Priority = -1 << 63 }, api.ErrPriority, "R1 rule -9223372036854775808"},
		{"the greatest priority", func(c *api.Config) { c.Boxes[0].Rules[0].Priority = 1<<63 - 1 }, api.ErrPriority, "R1 rule 9223372036854775807"},
		{"the least value", func(c *api.Config) { c.Boxes[0].Owns[0] = api.Prefix{Value: -1 << 63, Len: 8, To: "c"} }, api.ErrPrefix, "R1 own"},
		{"the least length", func(c *api.Config) { c.Boxes[0].Owns[0] = api.Prefix{Len: -1 << 63, To: "c"} }, api.ErrPrefix, "R1 own"},
		{"the greatest length", func(c *api.Config) { c.Boxes[0].Routes[0] = api.Prefix{Len: 1<<63 - 1, To: "c"} }, api.ErrPrefix, "R1 route"},
		{"the greatest cost", func(c *api.Config) { c.Links[0].Cost = 1<<63 - 1 }, api.ErrCount, "R1.c"},
		{"a long link", func(c *api.Config) { c.Links[0].To = long }, api.ErrUnknown, long},
		{"a long slice", func(c *api.Config) { c.Slices[0].Name = long }, api.ErrName, long},
		{"a slice of many ports", func(c *api.Config) { c.Slices[0].Ports = names }, api.ErrUnknown, "zz"},
		{"a slice of a great match", func(c *api.Config) { c.Slices[0].Where = nodes }, api.ErrMatch, "red"},
	} {
		c := plain(t)
		x.do(&c)
		if errno, told := model.Check(c); errno != x.errno || told != x.told {
			t.Errorf("P7.1: %s: %d, %.60q; want %d, %.60q", x.of, errno, told, x.errno, x.told)
		}
		answersOf(c, long, "red")
	}
	if zone, errno := model.Zone(plain(t), long); errno != api.ErrUnknown || !equal(zone, api.Zone{}) {
		t.Errorf("P7.6: Zone of a long name: %v, %d", zone, errno)
	}
	if n := model.Find(plain(t), long); n != -1 {
		t.Errorf("P7.4: Find of a long name: %d", n)
	}
}

// A network without anything, and beside every error nothing else.
func TestNothingBesideAnError(t *testing.T) {
	for _, d := range append(damages(), damage{"nothing at all", func(c *api.Config) { *c = api.Config{} }, api.ErrLayout, ""}) {
		c := plain(t)
		d.do(&c)
		ports, portsErrno := model.Ports(c)
		edges, edgesErrno := model.Edges(c)
		zone, zoneErrno := model.Zone(c, "red")
		if portsErrno != d.errno || edgesErrno != d.errno || zoneErrno != d.errno {
			t.Errorf("P7.3 to P7.6: %s: %d, %d, %d; want %d", d.of, portsErrno, edgesErrno, zoneErrno, d.errno)
		}
		if ports != nil || edges != nil || zone.Ports != nil || zone.Space != "" || model.Find(c, "R1.a") != -1 {
			t.Errorf("W3: %s: something is told beside the error: %v, %v, %v", d.of, ports, edges, zone)
		}
	}
}
