package field_test

import (
	"slices"
	"testing"

	"reach/api"
	"reach/field"
)

// spoil writes over a whole list, the room behind its end too.
func spoil[T any](list []T, with T) {
	room := list[:cap(list)]
	for k := range room {
		room[k] = with
	}
}

// Every list that is answered belongs to the caller alone: what is written over it, and behind it, is seen in no other answer.
func TestAnswersAreNewMemory(t *testing.T) {
	notRange := api.Test{Field: "proto", Op: api.OpNot, Form: api.FormRange, Lo: 3, Hi: 12}
	notNumber := api.Test{Field: "proto", Op: api.OpNot, Form: api.FormNumber, Lo: 3}
	isPattern := api.Test{Field: "proto", Op: api.OpIs, Form: api.FormPattern, Pattern: "1xx1"}
	for n, ask := range []func() ([]string, api.Errno){
		func() ([]string, api.Errno) { return field.Cover(4, 1, 14) },
		func() ([]string, api.Errno) { return field.Cubes(layoutF, notRange) },
		func() ([]string, api.Errno) { return field.Cubes(layoutF, notNumber) },
		func() ([]string, api.Errno) { return field.Cubes(layoutF, isPattern) },
	} {
		first, e := ask()
		second, _ := ask()
		want := slices.Clone(first)
		spoil(first, "spoilt")
		third, _ := ask()
		if e != api.OK || !slices.Equal(second, want) || !slices.Equal(third, want) {
			t.Errorf("W6: call %d: %v and %v; want %v", n, second, third, want)
		}
	}
	first, _ := field.Unpack(layoutF, "000000111000")
	second, _ := field.Unpack(layoutF, "000000111000")
	spoil(first, -1)
	if !slices.Equal(second, []int{3, 8}) {
		t.Errorf("W6: Unpack: %v", second)
	}
}

// What is handed in stays as it was, the room behind the lists' ends too.
func TestArgumentsStayAsTheyWere(t *testing.T) {
	fieldRoom := append(slices.Clone(layoutF), many(6, 7)...)
	setRoom := []api.Set{{Field: "proto", Value: 5}, {Field: "dst", Value: 6}, {Field: "left", Value: 7}, {Field: "alone", Value: 8}}
	valueRoom := []int{3, 8, 77, 78, 79}
	fields, sets, values := slices.Clone(fieldRoom), slices.Clone(setRoom), slices.Clone(valueRoom)
	for _, test := range []api.Test{{Field: "proto", Op: api.OpNot, Form: api.FormRange, Lo: 3, Hi: 12}, {Field: "dst", Op: api.OpNot, Form: api.FormPrefix, Lo: 64, Len: 2}, {Field: "none"}} {
		field.Cubes(fields[:2], test)
	}
	field.Check(fields[:2])
	field.Word(fields[:2], sets[:2])
	field.Word(fields[:2], sets[:3])
	field.Pack(fields[:2], values[:2])
	field.Pack(fields[:2], values[:3])
	field.Unpack(fields[:2], "000000111000")
	field.Show(fields[:2], "01xxxxxx1xx0")
	if !slices.Equal(fields, fieldRoom) || !slices.Equal(sets, setRoom) || !slices.Equal(values, valueRoom) {
		t.Errorf("W6: %v, %v, %v", fields, sets, values)
	}
}

// An answer of Word, Pack and the others hangs on what stood in the lists when it was asked for, not on what is written there later.
func TestArgumentsAreNotKept(t *testing.T) {
	fields := slices.Clone(layoutF)
	values := []int{3, 8}
	header, _ := field.Pack(fields, values)
	cubes, _ := field.Cubes(fields, api.Test{Field: "proto", Op: api.OpIs, Form: api.FormNumber, Lo: 6})
	spoil(fields, api.Field{Name: "spoilt", Bits: 9})
	spoil(values, 9)
	if header != "000000111000" || !slices.Equal(cubes, []string{"xxxxxxxx0110"}) {
		t.Errorf("W6: %q, %v", header, cubes)
	}
	if e, at := field.Check(fields); e != api.ErrFields || at != 1 {
		t.Errorf("W2: Check = %d, %d", e, at)
	}
}
