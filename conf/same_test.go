package conf_test

import (
	"reflect"
	"slices"
	"strconv"
	"testing"

	"reach/api"
	"reach/conf"
)

// checkSame holds Same against its second telling, both ways round.
func checkSame(t *testing.T, a, b api.Config) bool {
	t.Helper()
	want := tellSame(reflect.ValueOf(a), reflect.ValueOf(b))
	if conf.Same(a, b) != want || conf.Same(b, a) != want {
		t.Fatalf("P6.4: Same is %t; want %t, of\n%+v\n%+v", !want, want, a, b)
	}
	return want
}

// spots calls look with each list and each leaf of a value, and the name of the field that it is in.
func spots(v reflect.Value, name string, look func(spot reflect.Value, name string)) {
	switch v.Kind() {
	case reflect.Struct:
		for n := range v.NumField() {
			spots(v.Field(n), v.Type().Field(n).Name, look)
		}
	case reflect.Slice:
		look(v, name)
		for n := range v.Len() {
			spots(v.Index(n), name, look)
		}
	default:
		look(v, name)
	}
}

// spotOf: the spot of that number; false, if there are fewer.
func spotOf(c *api.Config, number int) (reflect.Value, string, bool) {
	var found reflect.Value
	var in string
	n := 0
	spots(reflect.ValueOf(c).Elem(), "", func(spot reflect.Value, name string) {
		if n == number {
			found, in = spot, name
		}
		n++
	})
	return found, in, number < n
}

// altered: a leaf gets another value; a list loses its last element, or gets one.
func altered(spot reflect.Value) {
	switch spot.Kind() {
	case reflect.Slice:
		if spot.Len() > 0 {
			spot.Set(spot.Slice(0, spot.Len()-1))
		} else {
			spot.Set(reflect.MakeSlice(spot.Type(), 1, 1))
		}
	case reflect.Int:
		spot.SetInt(spot.Int() + 1)
	case reflect.Bool:
		spot.SetBool(!spot.Bool())
	case reflect.String:
		spot.SetString(spot.String() + "z")
	}
}

// Every single part counts.
func TestSameLooksAtEveryPart(t *testing.T) {
	for number := 0; ; number++ {
		c := whole()
		spot, name, ok := spotOf(&c, number)
		if !ok {
			if number < 130 {
				t.Errorf("only %d parts", number)
			}
			break
		}
		altered(spot)
		if checkSame(t, whole(), c) {
			t.Errorf("P6.4: another %s (part %d): Same is true", name, number)
		}
	}
}

// Two elements in another order: just the lists that P6.4 names may have it.
func TestSameOfOrders(t *testing.T) {
	const free = " Rules From Owns Routes Links Slices "
	rich := whole()
	rich.Boxes[0].Owns = append(rich.Boxes[0].Owns, api.Prefix{Value: 1, Len: 2, To: "d"})
	rich.Boxes[0].Routes = append(rich.Boxes[0].Routes, api.Prefix{Value: 3, Len: 5, To: "d"})
	rich.Slices = append(rich.Slices, api.Slice{Name: "s", Ports: []string{"B.a"}, Where: anyMatch})
	met := map[string]int{}
	for number := 0; ; number++ {
		c := cloned(rich)
		spot, name, ok := spotOf(&c, number)
		if !ok {
			break
		}
		if spot.Kind() != reflect.Slice || spot.Len() < 2 {
			continue
		}
		reflect.Swapper(spot.Interface())(0, spot.Len()-1)
		if same := checkSame(t, rich, c); same != isOneOf(free, name) {
			t.Errorf("P6.4: %s in another order: Same is %t", name, same)
		}
		met[name]++
	}
	for _, name := range []string{"Fields", "Boxes", "Ins", "Outs", "Guards", "Rules", "From", "Match", "Sets", "To", "Owns", "Routes", "Links", "Slices", "Ports"} {
		if met[name] == 0 {
			t.Errorf("%s is not met", name)
		}
	}
}

// Each element is to be in both as often.
func TestSameCountsElements(t *testing.T) {
	link := func(costs ...int) api.Config {
		var c api.Config
		for _, cost := range costs {
			c.Links = append(c.Links, api.Link{From: "A.a", To: "B.b", Cost: cost})
		}
		return c
	}
	from := func(names ...string) api.Config {
		return api.Config{Boxes: []api.Box{{Rules: []api.Rule{{From: names}}}}}
	}
	for _, c := range []struct {
		a, b api.Config
		want bool
	}{
		{link(1, 1, 2), link(2, 1, 1), true}, {link(1, 1, 2), link(1, 2, 2), false}, {link(1, 1), link(1), false}, {link(), link(), true},
		{from("a", "b", "a"), from("a", "a", "b"), true}, {from("a", "b", "a"), from("b", "b", "a"), false}, {from("a", "a"), from("a"), false}, {from("ab", "c"), from("a", "bc"), false},
		{from(), api.Config{Boxes: []api.Box{{Rules: []api.Rule{{From: []string{}, Match: []api.Node{}}}}}}, true},
		{api.Config{}, api.Config{Fields: []api.Field{}, Boxes: []api.Box{}, Links: []api.Link{}, Slices: []api.Slice{}}, true},
	} {
		if same := checkSame(t, c.a, c.b); same != c.want {
			t.Errorf("P6.4: %v and %v: %t", c.a, c.b, same)
		}
	}
}

// small: a network of few values, whatever they mean, so that many are the same.
func (s *source) small() api.Config {
	name := func() string { return s.oneOf("a", "\xff") }
	match := func() []api.Node { return []api.Node{{Kind: s.below(2), Test: api.Test{Lo: s.below(2)}}} }
	prefixes := func() []api.Prefix {
		return some(s, 2, func() api.Prefix { return api.Prefix{Value: -s.below(2), To: name()} })
	}
	return api.Config{
		Boxes: some(s, 1, func() api.Box {
			return api.Box{Rules: some(s, 2, func() api.Rule {
				return api.Rule{Priority: s.below(2), From: s.texts(2, name), Match: match(), To: s.texts(1, name)}
			}), Owns: prefixes(), Routes: prefixes()}
		}),
		Links:  some(s, 3, func() api.Link { return api.Link{From: name(), Cost: s.below(2)} }),
		Slices: some(s, 2, func() api.Slice { return api.Slice{Name: name(), Where: match()} }),
	}
}

func TestSameOfMixedNetworks(t *testing.T) {
	s := source(64)
	same := 0
	for range 30000 {
		if checkSame(t, s.small(), s.small()) {
			same++
		}
	}
	if same < 300 || same > 25000 {
		t.Errorf("%d of the networks are the same", same)
	}
	for range 1000 {
		a := s.network()
		b := cloned(a)
		for n := range b.Boxes {
			slices.Reverse(b.Boxes[n].Rules)
			slices.Reverse(b.Boxes[n].Owns)
		}
		slices.Reverse(b.Links)
		if !checkSame(t, a, b) {
			t.Fatalf("P6.4: %+v in another order", a)
		}
	}
}

// Same looks at no bound, and long lists do not keep it.
func TestSameOfLongLists(t *testing.T) {
	var a, b api.Config
	const size = 100000
	for n := range size {
		a.Links = append(a.Links, api.Link{From: strconv.Itoa(n), Cost: -n})
		b.Links = append(b.Links, api.Link{From: strconv.Itoa(size - 1 - n), Cost: n + 1 - size})
	}
	if !conf.Same(a, b) {
		t.Error("P6.4: many links, turned round")
	}
	b.Links[size/2].Cost++
	if conf.Same(a, b) {
		t.Error("P6.4: many links, one of another cost")
	}
}
