package field_test

import (
	"math"
	"slices"
	"strings"
	"testing"

	"reach/api"
	"reach/field"
)

func checkCubes(t *testing.T, fields []api.Field, test api.Test) []string {
	t.Helper()
	got, e := field.Cubes(fields, test)
	if want, wantE := tellCubes(fields, test); !slices.Equal(got, want) || e != wantE {
		t.Fatalf("P4.4, P4.5: Cubes(%v, %+v) = %v, %d; want %v, %d", fields, test, got, e, want, wantE)
	}
	if e != api.OK && got != nil {
		t.Fatalf("W3: Cubes(%v, %+v) = %v, %d", fields, test, got, e)
	}
	return got
}

// around: a layout with a field f of that many bits between two others.
func around(bits int) []api.Field {
	return []api.Field{{Name: "a", Bits: 2}, {Name: "f", Bits: bits}, {Name: "z", Bits: 1}}
}

// eachTest calls look with every test of the field f that has these patterns and numbers at, between and beyond the ends of so many bits.
func eachTest(bits int, patterns []string, look func(test api.Test)) {
	for op := -1; op <= 8; op++ {
		for form := -1; form <= 6; form++ {
			for lo := -1; lo <= 1<<bits; lo++ {
				for hi := -1; hi <= 1<<bits; hi++ {
					for size := -1; size <= bits+1; size++ {
						for _, pattern := range patterns {
							look(api.Test{Field: "f", Op: op, Form: form, Lo: lo, Hi: hi, Len: size, Pattern: pattern})
						}
					}
				}
			}
		}
	}
}

func TestCubesOfAllSmallTests(t *testing.T) {
	for bits := 1; bits <= 3; bits++ {
		fields := around(bits)
		eachTest(bits, []string{"", "x01"[:bits], "x2"}, func(test api.Test) { checkCubes(t, fields, test) })
	}
}

func TestCubesOfAllSmallPatterns(t *testing.T) {
	for bits := 1; bits <= 4; bits++ {
		fields := around(bits)
		for size := range bits + 2 {
			eachText("01x2", size, func(pattern string) {
				for op := range 8 {
					checkCubes(t, fields, api.Test{Field: "f", Op: op, Form: api.FormPattern, Pattern: pattern})
				}
			})
		}
	}
}

// The meaning, header by header: just one cube has a header for which the test holds, none has another one.
func TestCubesHoldJustTheHeadersOfTheTest(t *testing.T) {
	for bits := 1; bits <= 3; bits++ {
		fields := around(bits)
		eachTest(bits, []string{"", "x01"[:bits], "1xx"[:bits], "xxx"[:bits]}, func(test api.Test) {
			cubes, e := field.Cubes(fields, test)
			if e != api.OK {
				return
			}
			eachText("01", bits+3, func(header string) {
				want := 0
				if tellHolds(bits, test, int(numberOf(header[2:2+bits]))) {
					want = 1
				}
				if got := holders(cubes, header); got != want {
					t.Fatalf("P4.4: %s is in %d of the cubes %v of %+v; want %d", header, got, cubes, test, want)
				}
			})
		})
	}
}

// holders: how many of the cubes have a header.
func holders(cubes []string, header string) int {
	count := 0
	for _, c := range cubes {
		if has(c, header) {
			count++
		}
	}
	return count
}

func TestCubesStandAtTheFieldsPlaces(t *testing.T) {
	fields := []api.Field{{Name: "a", Bits: 3}, {Name: "b", Bits: 1}, {Name: "c", Bits: 4}}
	for name, want := range map[string]string{"a": "001xxxxx", "b": "xxx1xxxx", "c": "xxxx0001"} {
		got, e := field.Cubes(fields, api.Test{Field: name, Op: api.OpIs, Form: api.FormNumber, Lo: 1})
		if !slices.Equal(got, []string{want}) || e != api.OK {
			t.Errorf("P4.2, P4.5: Cubes of %s = 1: %v, %d; want %s", name, got, e, want)
		}
	}
}

func TestCubesOfEveryRowOfTheTable(t *testing.T) {
	number := func(op, lo int) api.Test { return api.Test{Op: op, Form: api.FormNumber, Lo: lo} }
	for _, c := range []struct {
		test api.Test
		want string
	}{
		{number(api.OpIs, 5), "0101"},
		{number(api.OpNot, 5), "1xxx 00xx 011x 0100"},
		{number(api.OpBelow, 5), "00xx 0100"},
		{number(api.OpMost, 5), "00xx 010x"},
		{number(api.OpAbove, 5), "011x 1xxx"},
		{number(api.OpLeast, 5), "0101 011x 1xxx"},
		{number(api.OpBelow, 0), ""},
		{number(api.OpMost, 0), "0000"},
		{number(api.OpAbove, 0), "0001 001x 01xx 1xxx"},
		{number(api.OpLeast, 0), "xxxx"},
		{number(api.OpBelow, 15), "0xxx 10xx 110x 1110"},
		{number(api.OpMost, 15), "xxxx"},
		{number(api.OpAbove, 15), ""},
		{number(api.OpLeast, 15), "1111"},
		{api.Test{Op: api.OpIs, Form: api.FormPrefix, Lo: 12, Len: 3}, "110x"},
		{api.Test{Op: api.OpNot, Form: api.FormPrefix, Lo: 12, Len: 3}, "0xxx 10xx 111x"},
		{api.Test{Op: api.OpIs, Form: api.FormPrefix}, "xxxx"},
		{api.Test{Op: api.OpNot, Form: api.FormPrefix}, ""},
		{api.Test{Op: api.OpIs, Form: api.FormPrefix, Lo: 9, Len: 4}, "1001"},
		{api.Test{Op: api.OpIs, Form: api.FormRange, Lo: 6, Hi: 12}, "011x 10xx 1100"},
		{api.Test{Op: api.OpNot, Form: api.FormRange, Lo: 6, Hi: 12}, "00xx 010x 1101 111x"},
		{api.Test{Op: api.OpIs, Form: api.FormRange, Lo: 6, Hi: 6}, "0110"},
		{api.Test{Op: api.OpNot, Form: api.FormRange, Lo: 6, Hi: 6}, "00xx 010x 0111 1xxx"},
		{api.Test{Op: api.OpIs, Form: api.FormRange, Lo: 0, Hi: 15}, "xxxx"},
		{api.Test{Op: api.OpNot, Form: api.FormRange, Lo: 0, Hi: 15}, ""},
		{api.Test{Op: api.OpNot, Form: api.FormRange, Lo: 0, Hi: 6}, "0111 1xxx"},
		{api.Test{Op: api.OpNot, Form: api.FormRange, Lo: 6, Hi: 15}, "00xx 010x"},
		{api.Test{Op: api.OpIs, Form: api.FormPattern, Pattern: "x1x0"}, "x1x0"},
		{api.Test{Op: api.OpNot, Form: api.FormPattern, Pattern: "x1x0"}, "x0xx x1x1"},
		{api.Test{Op: api.OpIs, Form: api.FormPattern, Pattern: "xxxx"}, "xxxx"},
		{api.Test{Op: api.OpNot, Form: api.FormPattern, Pattern: "xxxx"}, ""},
	} {
		c.test.Field = "f"
		for _, fields := range [][]api.Field{{{Name: "f", Bits: 4}}, {{Name: "f", Bits: 4}, {Name: "g", Bits: 2}}, {{Name: "g", Bits: 2}, {Name: "f", Bits: 4}}} {
			var want []string
			for _, piece := range strings.Fields(c.want) {
				want = append(want, map[string]string{"f": piece + "xxxx"[:len(fields)*2-2], "g": "xx" + piece}[fields[0].Name])
			}
			if got, e := field.Cubes(fields, c.test); !slices.Equal(got, want) || e != api.OK {
				t.Errorf("P4.5: Cubes(%v, %+v) = %v, %d; want %v", fields, c.test, got, e, want)
			}
		}
	}
}

func TestCubesRefusesInOrder(t *testing.T) {
	for _, c := range []struct {
		test api.Test
		e    api.Errno
	}{
		{api.Test{}, api.ErrNoField},
		{api.Test{Field: "F", Op: 9, Form: 9, Lo: -1}, api.ErrNoField},
		{api.Test{Field: "f ", Op: 1, Form: 1}, api.ErrNoField},
		{api.Test{Field: "any", Op: 1, Form: 1}, api.ErrNoField},
		{api.Test{Field: "f"}, api.ErrTest},
		{api.Test{Field: "f", Op: 0, Form: 1}, api.ErrTest},
		{api.Test{Field: "f", Op: 7, Form: 1}, api.ErrTest},
		{api.Test{Field: "f", Op: -1, Form: 1}, api.ErrTest},
		{api.Test{Field: "f", Op: math.MaxInt, Form: 1}, api.ErrTest},
		{api.Test{Field: "f", Op: math.MinInt, Form: 1}, api.ErrTest},
		{api.Test{Field: "f", Op: 1, Form: 0}, api.ErrTest},
		{api.Test{Field: "f", Op: 1, Form: 5}, api.ErrTest},
		{api.Test{Field: "f", Op: 1, Form: -1}, api.ErrTest},
		{api.Test{Field: "f", Op: 1, Form: math.MaxInt}, api.ErrTest},
		{api.Test{Field: "f", Op: 1, Form: math.MinInt}, api.ErrTest},
		{api.Test{Field: "f", Op: 3, Form: 2, Lo: 99}, api.ErrTest},
		{api.Test{Field: "f", Op: 4, Form: 3, Lo: 9, Hi: 3}, api.ErrTest},
		{api.Test{Field: "f", Op: 5, Form: 4, Pattern: "2"}, api.ErrTest},
		{api.Test{Field: "f", Op: 6, Form: 2}, api.ErrTest},
		{api.Test{Field: "f", Op: 1, Form: 1, Lo: 99, Hi: 1}, api.ErrTest},
		{api.Test{Field: "f", Op: 1, Form: 1, Lo: -1, Len: -1}, api.ErrTest},
		{api.Test{Field: "f", Op: 1, Form: 1, Lo: -1, Pattern: "xxxx"}, api.ErrTest},
		{api.Test{Field: "f", Op: 1, Form: 2, Lo: 99, Hi: -1}, api.ErrTest},
		{api.Test{Field: "f", Op: 1, Form: 2, Lo: 99, Pattern: "x"}, api.ErrTest},
		{api.Test{Field: "f", Op: 1, Form: 3, Lo: 99, Hi: 3, Len: 1}, api.ErrTest},
		{api.Test{Field: "f", Op: 1, Form: 3, Lo: 99, Hi: 3, Pattern: "\x00"}, api.ErrTest},
		{api.Test{Field: "f", Op: 1, Form: 4, Lo: 1, Pattern: "2"}, api.ErrTest},
		{api.Test{Field: "f", Op: 1, Form: 4, Hi: 1, Pattern: "2"}, api.ErrTest},
		{api.Test{Field: "f", Op: 1, Form: 4, Len: 1, Pattern: "2"}, api.ErrTest},
		{api.Test{Field: "f", Op: 1, Form: 1, Lo: 16}, api.ErrValue},
		{api.Test{Field: "f", Op: 1, Form: 1, Lo: -1}, api.ErrValue},
		{api.Test{Field: "f", Op: 6, Form: 1, Lo: math.MinInt}, api.ErrValue},
		{api.Test{Field: "f", Op: 4, Form: 1, Lo: math.MaxInt}, api.ErrValue},
		{api.Test{Field: "f", Op: 4, Form: 1, Lo: 16}, api.ErrValue},
		{api.Test{Field: "f", Op: 6, Form: 1, Lo: -1}, api.ErrValue},
		{api.Test{Field: "f", Op: 3, Form: 1, Lo: 16}, api.ErrValue},
		{api.Test{Field: "f", Op: 5, Form: 1, Lo: -1}, api.ErrValue},
		{api.Test{Field: "f", Op: 1, Form: 2, Len: 5}, api.ErrValue},
		{api.Test{Field: "f", Op: 1, Form: 2, Len: -1}, api.ErrValue},
		{api.Test{Field: "f", Op: 1, Form: 2, Len: math.MinInt}, api.ErrValue},
		{api.Test{Field: "f", Op: 1, Form: 2, Len: math.MaxInt}, api.ErrValue},
		{api.Test{Field: "f", Op: 1, Form: 2, Lo: 16, Len: 4}, api.ErrValue},
		{api.Test{Field: "f", Op: 1, Form: 2, Lo: 16, Len: 0}, api.ErrValue},
		{api.Test{Field: "f", Op: 1, Form: 2, Lo: -4, Len: 2}, api.ErrValue},
		{api.Test{Field: "f", Op: 1, Form: 2, Lo: 9, Len: 3}, api.ErrValue},
		{api.Test{Field: "f", Op: 1, Form: 2, Lo: 8, Len: 0}, api.ErrValue},
		{api.Test{Field: "f", Op: 2, Form: 2, Lo: 2, Len: 2}, api.ErrValue},
		{api.Test{Field: "f", Op: 1, Form: 3, Lo: 9, Hi: 16}, api.ErrValue},
		{api.Test{Field: "f", Op: 1, Form: 3, Lo: 16, Hi: 3}, api.ErrValue},
		{api.Test{Field: "f", Op: 1, Form: 3, Lo: 3, Hi: -1}, api.ErrValue},
		{api.Test{Field: "f", Op: 2, Form: 3, Lo: -1, Hi: 3}, api.ErrValue},
		{api.Test{Field: "f", Op: 1, Form: 3, Lo: 9, Hi: 3}, api.ErrRange},
		{api.Test{Field: "f", Op: 2, Form: 3, Lo: 1, Hi: 0}, api.ErrRange},
		{api.Test{Field: "f", Op: 1, Form: 4}, api.ErrDigits},
		{api.Test{Field: "f", Op: 1, Form: 4, Pattern: "1x"}, api.ErrDigits},
		{api.Test{Field: "f", Op: 1, Form: 4, Pattern: "1x1x1"}, api.ErrDigits},
		{api.Test{Field: "f", Op: 2, Form: 4, Pattern: "1x2x"}, api.ErrDigits},
		{api.Test{Field: "f", Op: 2, Form: 4, Pattern: "XXXX"}, api.ErrDigits},
		{api.Test{Field: "f", Op: 2, Form: 4, Pattern: "%xxx"}, api.ErrDigits},
		{api.Test{Field: "f", Op: 2, Form: 4, Pattern: "xx\xc3\xa9"}, api.ErrDigits},
		{api.Test{Field: "f", Op: 2, Form: 4, Pattern: "xxé"}, api.ErrDigits},
		{api.Test{Field: "f", Op: 2, Form: 4, Pattern: strings.Repeat("x", 257)}, api.ErrDigits},
		{api.Test{Field: "f", Op: 2, Form: 4, Pattern: strings.Repeat("x", 1<<20)}, api.ErrDigits},
	} {
		if got, e := field.Cubes(around(4), c.test); got != nil || e != c.e {
			t.Errorf("P4.4: Cubes(%.200v) = %v, %d; want %d", c.test, got, e, c.e)
		}
	}
}

// mixedTest: a test of the form that mostly has no fault.
func mixedTest(mix *source, f api.Field) api.Test {
	test := api.Test{Field: f.Name, Op: 1 + mix.below(2), Form: 1 + mix.below(4)}
	switch test.Form {
	case api.FormNumber:
		test.Op = 1 + mix.below(6)
		test.Lo = mix.value(f.Bits)
	case api.FormPrefix:
		test.Len = mix.below(f.Bits + 1)
		free := f.Bits - test.Len
		test.Lo = mix.value(f.Bits) >> free << free
	case api.FormRange:
		a, b := mix.value(f.Bits), mix.value(f.Bits)
		test.Lo, test.Hi = min(a, b), max(a, b)
	case api.FormPattern:
		test.Pattern = mix.text("01x", f.Bits)
	}
	return test
}

func TestCubesOfMixedTests(t *testing.T) {
	var mix source = 47
	for range 20000 {
		fields := mix.layout()
		n := mix.below(len(fields))
		test := mixedTest(&mix, fields[n])
		if cubes := checkCubes(t, fields, test); len(cubes) > 62 {
			t.Fatalf("P4.5: Cubes(%v, %+v) has %d cubes", fields, test, len(cubes))
		}
		switch mix.below(4) {
		case 0:
			test.Lo++
		case 1:
			test.Field = "q"
		case 2:
			test.Hi--
		case 3:
			test.Pattern += "x"
		}
		checkCubes(t, fields, test)
	}
}

func TestCubesOfWidestField(t *testing.T) {
	wide := many(8, 32)
	const most = 1<<32 - 1
	for _, lo := range []int{0, 1, 65535, 65536, 1<<31 - 1, 1 << 31, most - 1, most, most + 1, -1} {
		for op := api.OpIs; op <= api.OpLeast; op++ {
			checkCubes(t, wide, api.Test{Field: "fh", Op: op, Form: api.FormNumber, Lo: lo})
		}
		for size := range 34 {
			checkCubes(t, wide, api.Test{Field: "fa", Op: api.OpNot, Form: api.FormPrefix, Lo: lo, Len: size})
		}
		for _, hi := range []int{0, 1, 1 << 31, most - 1, most, most + 1} {
			checkCubes(t, wide, api.Test{Field: "fc", Op: api.OpIs, Form: api.FormRange, Lo: lo, Hi: hi})
			checkCubes(t, wide, api.Test{Field: "fc", Op: api.OpNot, Form: api.FormRange, Lo: lo, Hi: hi})
		}
	}
}
