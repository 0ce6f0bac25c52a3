package space_test

import (
	"testing"

	"reach/api"
	"reach/space"
)

// The examples of chapter 2, by their numbers.

func TestExamplesOfTheForm(t *testing.T) {
	for _, c := range []struct {
		text, want string
		size       int
	}{
		{"10xx-1111-101x-1010+0xxx-1xxx", "0xxx+10xx-101x", 3},
		{"1xxx-11xx+10xx-1010+1xxx-110x", "1xxx-110x", 2},
		{"10xx-1xxx", "none", 0},
		{"xxxx-0xxx-1xxx", "xxxx-0xxx-1xxx", 3},
	} {
		if s := read(t, 4, c.text); s.Text() != c.want || s.Size() != c.size || s.Bits() != 4 {
			t.Errorf("1 to 3: Parse(4, %q) = %q of size %d", c.text, s.Text(), s.Size())
		}
	}
	if h, some, e := read(t, 4, "xxxx-0xxx-1xxx").Least(10); h != "" || some || e != api.OK {
		t.Errorf("3: Least = %q, %v, %d", h, some, e)
	}
}

func TestExamplesOfTwoSpaces(t *testing.T) {
	if s, e := read(t, 4, "xx1x-101x").Meet(read(t, 4, "1xxx-1x0x")); s.Text() != "1x1x-101x" || e != api.OK {
		t.Errorf("4: Meet = %q, %d", s.Text(), e)
	}
	for away, want := range map[string]string{"1xxx-11xx": "11xx+xxxx-1xxx", "xxxx-0xxx-1xxx": "0xxx+1xxx"} {
		if s, e := read(t, 4, "xxxx").Minus(read(t, 4, away)); s.Text() != want || e != api.OK {
			t.Errorf("5: Minus(%q) = %q, %d", away, s.Text(), e)
		}
	}
	half := read(t, 4, "1xxx-11xx")
	for text, want := range map[string]bool{"10xx": true, "1x1x": false} {
		if in, e := read(t, 4, text).Within(half, 1); in != want || e != api.OK {
			t.Errorf("10: %q Within = %v, %d", text, in, e)
		}
	}
	if s, e := read(t, 4, "1x1x").Minus(half); s.Text() != "111x" || e != api.OK {
		t.Errorf("10: what is left is %q, %d", s.Text(), e)
	}
	for _, pair := range [][2]int{{0, 0}, {4, 5}} {
		if _, e := space.None(pair[0]).Join(space.None(pair[1])); e != api.ErrWidth {
			t.Errorf("10: None(%d) Join None(%d) = %d", pair[0], pair[1], e)
		}
	}
}

func TestExamplesOfWords(t *testing.T) {
	if s, e := read(t, 4, "1x0x-110x+0xxx").Before(cubeOf("1x0x")); s.Text() != "xxxx-x1xx" || e != api.OK {
		t.Errorf("6: Before = %q, %d", s.Text(), e)
	}
	s := read(t, 4, "0xxx-01xx+1111")
	if a, e := s.After(cubeOf("x1xx"), 2); a.Text() != "01xx+1111" || e != api.OK {
		t.Errorf("9: After = %q, %d", a.Text(), e)
	}
	if a, e := s.After(cubeOf("x1xx"), 1); a.Bits() != 0 || e != api.ErrBudget {
		t.Errorf("9: After = %q, %d", a.Text(), e)
	}
}

func TestExamplesOfExpand(t *testing.T) {
	for _, c := range []struct {
		text  string
		limit int
		want  string
		e     api.Errno
	}{
		{"xxxx-11xx-xx00", 4, "0x1x 0x01 101x 1001", api.OK}, {"xxxx-11xx-xx00", 3, "", api.ErrBudget}, {"xxxx-11xx", 2, "0xxx 10xx", api.OK}, {"xxxx-11xx", 1, "", api.ErrBudget}, {"xxxx-11xx", 0, "", api.ErrBudget}, {"none", 0, "", api.OK}, {"xxxx", -1, "", api.ErrArg}, {"xxxx", api.MaxSplit + 1, "", api.ErrArg},
	} {
		if cubes, e := read(t, 4, c.text).Expand(c.limit); texts(cubes) != c.want || e != c.e {
			t.Errorf("7: %q Expand(%d) = %q, %d", c.text, c.limit, texts(cubes), e)
		}
	}
	if h, some, e := read(t, 4, "1xxx-10xx").Least(1); h != "1100" || !some || e != api.OK {
		t.Errorf("8: Least = %q, %v, %d", h, some, e)
	}
}

func TestExamplesOfParse(t *testing.T) {
	for _, text := range []string{"", "10x", "10xx+", "10xx--0xxx", "none+10xx", " 10xx", "NONE"} {
		if _, e := space.Parse(4, text); e != api.ErrForm {
			t.Errorf("11: Parse(4, %q) = %d", text, e)
		}
	}
	if _, e := space.Parse(0, "none"); e != api.ErrArg {
		t.Errorf("11: Parse(0, none) = %d", e)
	}
	if s := read(t, 1, "none"); s.Bits() != 1 || s.Text() != space.None(1).Text() {
		t.Errorf("11: Parse(1, none) = %q of %d bits", s.Text(), s.Bits())
	}
}
