package field_test

import (
	"math"
	"strings"
	"testing"

	"reach/api"
	"reach/field"
)

var layoutF = []api.Field{{Name: "dst", Bits: 8}, {Name: "proto", Bits: 4}}

// many: so many fields of that width, with names that differ.
func many(count, bits int) []api.Field {
	fields := make([]api.Field, count)
	for n := range fields {
		fields[n] = api.Field{Name: "f" + string(rune('a'+n)), Bits: bits}
	}
	return fields
}

func named(name string) []api.Field {
	return []api.Field{{Name: name, Bits: 1}}
}

func checkCheck(t *testing.T, fields []api.Field) {
	t.Helper()
	e, at := field.Check(fields)
	if wantE, want := tellCheck(fields); e != wantE || at != want {
		t.Errorf("P4.1: Check(%.200v) = %d, %d; want %d, %d", fields, e, at, wantE, want)
	}
}

func TestCheckTakesLayouts(t *testing.T) {
	for _, fields := range [][]api.Field{
		layoutF, named("a"), named("_"), named("_9"), named("Z9_z"), named("Any"), named("NONE"), named("anyone"), named("nonesuch"), named("any_"), named("set"), named("x"), named(strings.Repeat("n", 24)),
		many(12, 1), many(8, 32), many(12, 21), {{Name: "a", Bits: 1}, {Name: "A", Bits: 32}}, many(1, 32), {{Name: "aa", Bits: 1}, {Name: "a", Bits: 1}},
	} {
		if e, at := field.Check(fields); e != api.OK || at != 0 {
			t.Errorf("P4.1: Check(%v) = %d, %d", fields, e, at)
		}
		checkCheck(t, fields)
	}
}

func TestCheckRefusesNames(t *testing.T) {
	for _, name := range []string{
		"", "any", "none", "9", "9a", "a.b", "a-b", "a b", " a", "a ", "a\n", "\na", "a\t", "a#", "a # b", "#a", "\"a\"", "%01", "!a", "a=", "é", "aé", "a\xff", "\xff", "a\x00", "12", "0x1", "=", "->", strings.Repeat("n", 25), strings.Repeat("n", 24) + " ", strings.Repeat("a ", 8192), strings.Repeat("n", 16384), strings.Repeat("n", 16385), strings.Repeat("n", 1<<20),
	} {
		if e, at := field.Check(named(name)); e != api.ErrFields || at != 0 {
			t.Errorf("P4.1: Check of the name %.40q = %d, %d", name, e, at)
		}
		fields := append(many(3, 4), named(name)...)
		if e, at := field.Check(fields); e != api.ErrFields || at != 3 {
			t.Errorf("P4.1: Check of the name %.40q in the fourth field = %d, %d", name, e, at)
		}
	}
}

func TestCheckOfAllShortNames(t *testing.T) {
	for size := range 4 {
		eachText("azAZ_09.% \n#\"-@[`{/:\x7f\x00\xc3\xa9", size, func(name string) { checkCheck(t, named(name)) })
	}
	for b := range 256 {
		checkCheck(t, named(string([]byte{byte(b)})))
		checkCheck(t, named("a"+string([]byte{byte(b)})))
	}
}

func TestCheckRefusesWidths(t *testing.T) {
	for _, bits := range []int{0, -1, 33, 64, 256, 257, math.MinInt, math.MaxInt, math.MinInt + 1, 1 << 32, 1<<32 + 1, math.MaxInt32} {
		for place := range 3 {
			fields := many(3, 5)
			fields[place].Bits = bits
			if e, at := field.Check(fields); e != api.ErrFields || at != place {
				t.Errorf("P4.1: Check of %d bits at %d = %d, %d", bits, place, e, at)
			}
		}
	}
}

func TestCheckCountsBitsAndFields(t *testing.T) {
	for _, c := range []struct {
		fields []api.Field
		e      api.Errno
		at     int
	}{
		{nil, api.ErrFields, 0},
		{[]api.Field{}, api.ErrFields, 0},
		{make([]api.Field, 0, 20), api.ErrFields, 0},
		{many(13, 1), api.ErrLong, 0},
		{make([]api.Field, 13), api.ErrLong, 0},
		{make([]api.Field, 100000), api.ErrLong, 0},
		{make([]api.Field, 12), api.ErrFields, 0},
		{append(many(8, 32), api.Field{Name: "more", Bits: 1}), api.ErrFields, 8},
		{many(12, 22), api.ErrFields, 11},
		{many(12, 32), api.ErrFields, 8},
		{append(many(7, 32), api.Field{Name: "p", Bits: 31}, api.Field{Name: "q", Bits: 1}), api.OK, 0},
		{append(many(7, 32), api.Field{Name: "p", Bits: 31}, api.Field{Name: "q", Bits: 2}), api.ErrFields, 8},
		{append(many(9, 32), api.Field{}), api.ErrFields, 8},
	} {
		if e, at := field.Check(c.fields); e != c.e || at != c.at {
			t.Errorf("P4.1: Check(%.200v) = %d, %d; want %d, %d", c.fields, e, at, c.e, c.at)
		}
	}
}

func TestCheckTellsTheFirstThatOffends(t *testing.T) {
	for _, c := range []struct {
		fields []api.Field
		at     int
	}{
		{[]api.Field{{Name: "a", Bits: 1}, {Name: "a", Bits: 1}}, 1},
		{[]api.Field{{Name: "a", Bits: 1}, {Name: "b", Bits: 2}, {Name: "a", Bits: 3}, {Name: "b", Bits: 4}}, 2},
		{[]api.Field{{Name: "a", Bits: 1}, {Name: "b", Bits: 0}, {Name: "a", Bits: 3}}, 1},
		{[]api.Field{{Name: "any", Bits: 1}, {Name: "b", Bits: 0}}, 0},
		{[]api.Field{{Name: "a", Bits: 1}, {Name: "none", Bits: 1}, {Name: "any", Bits: 1}}, 1},
		{[]api.Field{{Name: "a", Bits: 1}, {Name: "b", Bits: 1}, {Name: "c", Bits: 1}, {Name: "c", Bits: 33}}, 3},
	} {
		if e, at := field.Check(c.fields); e != api.ErrFields || at != c.at {
			t.Errorf("P4.1: Check(%v) = %d, %d; want %d", c.fields, e, at, c.at)
		}
	}
}

func TestCheckOfMixedLists(t *testing.T) {
	var mix source = 41
	for range 20000 {
		fields := make([]api.Field, mix.below(15))
		for n := range fields {
			fields[n] = api.Field{Name: string(rune('a' + mix.below(20))), Bits: 1 + mix.below(32)}
			switch mix.below(60) {
			case 0:
				fields[n].Name = []string{"any", "none", "", "a.b", "7"}[mix.below(5)]
			case 1:
				fields[n].Bits = []int{0, -1, 33, 300}[mix.below(4)]
			}
		}
		checkCheck(t, fields)
	}
}

func TestOtherCallsSayTheErrorOfCheckFirst(t *testing.T) {
	for _, fields := range [][]api.Field{nil, {}, many(13, 1), named("any"), many(12, 32), append(many(2, 3), many(2, 3)...), many(2, 0), {{Name: "a", Bits: math.MaxInt}, {Name: "b", Bits: math.MaxInt}}, {{Name: "a", Bits: math.MinInt}}} {
		want, _ := field.Check(fields)
		if want == api.OK {
			t.Fatalf("%v is a layout", fields)
		}
		cubes, e := field.Cubes(fields, api.Test{Field: "?", Op: 9, Lo: -1})
		if cubes != nil || e != want {
			t.Errorf("P4.2, P4.4: Cubes(%v) = %v, %d; want %d", fields, cubes, e, want)
		}
		if _, e := field.Cubes(fields, api.Test{Field: "fa", Op: api.OpIs, Form: api.FormNumber}); e != want {
			t.Errorf("P4.2, P4.4: Cubes(%v) of a good test = %d; want %d", fields, e, want)
		}
		if word, e := field.Word(fields, make([]api.Set, 12)); word != "" || e != want {
			t.Errorf("P4.2, P4.6: Word(%v) = %q, %d; want %d", fields, word, e, want)
		}
		if word, e := field.Word(fields, make([]api.Set, 13)); word != "" || e != api.ErrLong {
			t.Errorf("P4.2, P4.6: Word(%v) of 13 sets = %q, %d", fields, word, e)
		}
		for _, values := range [][]int{nil, {-1}, make([]int, len(fields)), make([]int, 100)} {
			if header, e := field.Pack(fields, values); header != "" || e != want {
				t.Errorf("P4.2, P4.7: Pack(%v) = %q, %d; want %d", fields, header, e, want)
			}
		}
		for _, header := range []string{"", "2", "0", "x", strings.Repeat("0", 16385)} {
			if values, e := field.Unpack(fields, header); values != nil || e != want {
				t.Errorf("P4.2, P4.8: Unpack(%v) = %v, %d; want %d", fields, values, e, want)
			}
			if text, e := field.Show(fields, header); text != "" || e != want {
				t.Errorf("P4.2, P4.9: Show(%v) = %q, %d; want %d", fields, text, e, want)
			}
		}
	}
}
