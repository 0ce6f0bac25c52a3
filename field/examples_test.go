package field_test

import (
	"slices"
	"strings"
	"testing"

	"reach/api"
	"reach/field"
)

// The examples of chapter 4.

func TestExamplesOfCheck(t *testing.T) {
	for _, c := range []struct {
		fields []api.Field
		e      api.Errno
		at     int
	}{
		{layoutF, api.OK, 0},
		{nil, api.ErrFields, 0},
		{append(slices.Clone(layoutF), api.Field{Name: "dst", Bits: 3}), api.ErrFields, 2},
	} {
		if e, at := field.Check(c.fields); e != c.e || at != c.at {
			t.Errorf("P4.1: Check(%v) = %d, %d; want %d, %d", c.fields, e, at, c.e, c.at)
		}
	}
}

func TestExamplesOfCover(t *testing.T) {
	for _, c := range []struct {
		bits, lo, hi int
		want         string
		e            api.Errno
	}{
		{4, 0, 15, "xxxx", api.OK},
		{4, 3, 9, "0011, 01xx, 100x", api.OK},
		{4, 1, 14, "0001, 001x, 01xx, 10xx, 110x, 1110", api.OK},
		{4, 9, 3, "", api.ErrRange},
		{4, 3, 16, "", api.ErrValue},
		{33, 0, 0, "", api.ErrArg},
	} {
		if got, e := field.Cover(c.bits, c.lo, c.hi); strings.Join(got, ", ") != c.want || e != c.e {
			t.Errorf("P4.3: Cover(%d, %d, %d) = %v, %d; want %s, %d", c.bits, c.lo, c.hi, got, e, c.want, c.e)
		}
	}
}

func TestExamplesOfCubes(t *testing.T) {
	for _, c := range []struct {
		test api.Test
		want string
		e    api.Errno
	}{
		{api.Test{Field: "proto", Op: api.OpIs, Form: api.FormNumber, Lo: 6}, "xxxxxxxx0110", api.OK},
		{api.Test{Field: "proto", Op: api.OpNot, Form: api.FormNumber, Lo: 6}, "xxxxxxxx1xxx, xxxxxxxx00xx, xxxxxxxx010x, xxxxxxxx0111", api.OK},
		{api.Test{Field: "proto", Op: api.OpBelow, Form: api.FormNumber, Lo: 3}, "xxxxxxxx000x, xxxxxxxx0010", api.OK},
		{api.Test{Field: "proto", Op: api.OpBelow, Form: api.FormNumber, Lo: 0}, "", api.OK},
		{api.Test{Field: "proto", Op: api.OpMost, Form: api.FormNumber, Lo: 15}, "xxxxxxxxxxxx", api.OK},
		{api.Test{Field: "dst", Op: api.OpIs, Form: api.FormPrefix, Lo: 64, Len: 2}, "01xxxxxxxxxx", api.OK},
		{api.Test{Field: "dst", Op: api.OpIs, Form: api.FormPrefix, Lo: 65, Len: 2}, "", api.ErrValue},
		{api.Test{Field: "proto", Op: api.OpNot, Form: api.FormRange, Lo: 3, Hi: 14}, "xxxxxxxx000x, xxxxxxxx0010, xxxxxxxx1111", api.OK},
		{api.Test{Field: "proto", Op: api.OpNot, Form: api.FormPattern, Pattern: "1xx1"}, "xxxxxxxx0xxx, xxxxxxxx1xx0", api.OK},
	} {
		if got, e := field.Cubes(layoutF, c.test); strings.Join(got, ", ") != c.want || e != c.e {
			t.Errorf("P4.5: Cubes(%+v) = %v, %d; want %s, %d", c.test, got, e, c.want, c.e)
		}
	}
}

func TestExamplesOfValues(t *testing.T) {
	five := api.Set{Field: "proto", Value: 5}
	if got, e := field.Word(layoutF, []api.Set{five}); got != "xxxxxxxx0101" || e != api.OK {
		t.Errorf("P4.6: Word = %q, %d", got, e)
	}
	if got, e := field.Word(layoutF, []api.Set{five, five}); got != "" || e != api.ErrTwice {
		t.Errorf("P4.6: Word = %q, %d", got, e)
	}
	if got, e := field.Pack(layoutF, []int{255, 1}); got != "111111110001" || e != api.OK {
		t.Errorf("P4.7: Pack = %q, %d", got, e)
	}
	if got, e := field.Unpack(layoutF, "000000111000"); !slices.Equal(got, []int{3, 8}) || e != api.OK {
		t.Errorf("P4.8: Unpack = %v, %d", got, e)
	}
}

func TestExamplesOfShow(t *testing.T) {
	for _, c := range []struct{ header, want string }{
		{"000000111000", "dst = 3 & proto = 8"},
		{"01xxxxxx1xx0", "dst = 0.0.0.64/2 & proto = %1xx0"},
		{"xxxxxxxxxxxx", "any"},
	} {
		if got, e := field.Show(layoutF, c.header); got != c.want || e != api.OK {
			t.Errorf("P4.9: Show(%s) = %q, %d; want %q", c.header, got, e, c.want)
		}
	}
}
