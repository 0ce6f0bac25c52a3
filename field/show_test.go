package field_test

import (
	"strings"
	"testing"

	"reach/api"
	"reach/field"
	"reach/scan"
)

func checkShow(t *testing.T, fields []api.Field, cube string) {
	t.Helper()
	got, e := field.Show(fields, cube)
	if want := tellShow(fields, cube); got != want || e != api.OK {
		t.Fatalf("P4.9: Show(%v, %s) = %q, %d; want %q", fields, cube, got, e, want)
	}
	if back := readBack(t, fields, got); back != cube {
		t.Fatalf("P4.9: Show(%v, %s) = %q, which holds for %s", fields, cube, got, back)
	}
	tokens, _, _, _ := scan.Scan(got)
	if text, e := scan.Print(tokens); text != got+"\n" || e != api.OK {
		t.Fatalf("P4.9: Show(%v, %s) = %q, which is printed as %q, %d", fields, cube, got, text, e)
	}
}

// readBack: the cube of the headers that an expression of Show holds for.
func readBack(t *testing.T, fields []api.Field, text string) string {
	t.Helper()
	width := 0
	for _, f := range fields {
		width += f.Bits
	}
	cube := []byte(strings.Repeat("x", width))
	if text == "any" {
		return string(cube)
	}
	for _, piece := range strings.Split(text, " & ") {
		name, value, _ := strings.Cut(piece, " = ")
		test := api.Test{Field: name, Op: api.OpIs, Form: api.FormNumber}
		if pattern, ok := strings.CutPrefix(value, "%"); ok {
			test.Form, test.Pattern = api.FormPattern, pattern
		} else {
			lo, size, ok := strings.Cut(value, "/")
			test.Lo, _ = scan.Value(lo)
			if ok {
				test.Form = api.FormPrefix
				test.Len, _ = scan.Value(size)
			}
		}
		cubes, e := field.Cubes(fields, test)
		if e != api.OK || len(cubes) != 1 {
			t.Fatalf("P4.9: %q in %q is no test of one cube: %v, %d", piece, text, cubes, e)
		}
		for place := range width {
			if digit := cubes[0][place]; digit != 'x' {
				cube[place] = digit
			}
		}
	}
	return string(cube)
}

func TestShowOfAllSmallCubes(t *testing.T) {
	for _, fields := range [][]api.Field{{{Name: "a", Bits: 1}}, {{Name: "a", Bits: 6}}, {{Name: "a", Bits: 3}, {Name: "b", Bits: 4}}, {{Name: "a", Bits: 2}, {Name: "b", Bits: 1}, {Name: "c", Bits: 3}}} {
		width := 0
		for _, f := range fields {
			width += f.Bits
		}
		eachText("01x", width, func(cube string) { checkShow(t, fields, cube) })
	}
}

func TestShowOfMixedCubes(t *testing.T) {
	var mix source = 61
	for range 10000 {
		fields := mix.layout()
		cube := ""
		for _, f := range fields {
			switch digits := binary(f.Bits, mix.value(f.Bits)); mix.below(4) {
			case 0:
				cube += digits
			case 1:
				size := mix.below(f.Bits + 1)
				cube += digits[:size] + strings.Repeat("x", f.Bits-size)
			default:
				cube += mix.text("01xx"[mix.below(3):], f.Bits)
			}
		}
		checkShow(t, fields, cube)
	}
}

func TestShowTellsNumbers(t *testing.T) {
	wide := named("a")
	wide[0].Bits = 32
	for _, c := range []struct {
		v    int
		want string
	}{
		{0, "0"}, {1, "1"}, {10, "10"}, {255, "255"}, {256, "256"}, {65534, "65534"}, {65535, "65535"}, {65536, "0.1.0.0"}, {65537, "0.1.0.1"}, {70000, "0.1.17.112"}, {167772161, "10.0.0.1"}, {0x01020304, "1.2.3.4"}, {1 << 31, "128.0.0.0"}, {1<<32 - 1, "255.255.255.255"},
	} {
		if got, e := field.Show(wide, binary(32, c.v)); got != "a = "+c.want || e != api.OK {
			t.Errorf("P4.10: %d is told as %q, %d; want %q", c.v, got, e, c.want)
		}
	}
	for _, c := range []struct{ cube, want string }{
		{"0" + strings.Repeat("x", 31), "0.0.0.0/1"},
		{"1" + strings.Repeat("x", 31), "128.0.0.0/1"},
		{"00001010" + strings.Repeat("x", 24), "10.0.0.0/8"},
		{strings.Repeat("0", 31) + "x", "0.0.0.0/31"},
		{strings.Repeat("0", 30) + "1x", "0.0.0.2/31"},
		{strings.Repeat("0", 20) + "11111111" + "xxxx", "0.0.15.240/28"},
		{strings.Repeat("1", 31) + "x", "255.255.255.254/31"},
		{"x" + strings.Repeat("0", 31), "%x" + strings.Repeat("0", 31)},
		{"0x0" + strings.Repeat("x", 29), "%0x0" + strings.Repeat("x", 29)},
	} {
		if got, e := field.Show(wide, c.cube); got != "a = "+c.want || e != api.OK {
			t.Errorf("P4.9, P4.10: Show(%s) = %q, %d; want %q", c.cube, got, e, c.want)
		}
	}
}

func TestShowRefuses(t *testing.T) {
	loose := strings.Repeat("x", 11)
	for _, cube := range []string{"", "x", loose, loose + "xx", loose + "2", loose + "X", "2" + loose, loose + " ", loose + "\n", loose + "\x00", loose + "\xff", loose[1:] + "é", strings.Repeat("x", 256), strings.Repeat("x", 257), strings.Repeat("x", 16384), strings.Repeat("x", 16385), strings.Repeat("x", 1<<20), "none", "any"} {
		if got, e := field.Show(layoutF, cube); got != "" || e != api.ErrHeader {
			t.Errorf("P4.9: Show(%.40q) = %q, %d", cube, got, e)
		}
	}
}

func TestShowAtTheLimits(t *testing.T) {
	wide := many(8, 32)
	checkShow(t, wide, strings.Repeat("x", 256))
	checkShow(t, wide, strings.Repeat("0", 256))
	checkShow(t, wide, strings.Repeat("1", 256))
	checkShow(t, wide, strings.Repeat("01x0", 64))
	long := many(12, 21)
	for n := range long {
		long[n].Name = strings.Repeat("n", 22) + long[n].Name[:2]
	}
	checkShow(t, long, strings.Repeat("1", 252))
	checkShow(t, long, strings.Repeat("10x", 84))
}
