package field_test

import (
	"math"
	"slices"
	"strings"
	"testing"

	"reach/api"
	"reach/field"
)

func checkWord(t *testing.T, fields []api.Field, sets []api.Set) {
	t.Helper()
	got, e := field.Word(fields, sets)
	if want, wantE := tellWord(fields, sets); got != want || e != wantE {
		t.Fatalf("P4.6: Word(%v, %v) = %q, %d; want %q, %d", fields, sets, got, e, want, wantE)
	}
}

func TestWordWrites(t *testing.T) {
	for _, c := range []struct {
		sets []api.Set
		want string
	}{
		{nil, "xxxxxxxxxxxx"},
		{[]api.Set{}, "xxxxxxxxxxxx"},
		{[]api.Set{{Field: "proto", Value: 0}}, "xxxxxxxx0000"},
		{[]api.Set{{Field: "proto", Value: 15}}, "xxxxxxxx1111"},
		{[]api.Set{{Field: "dst", Value: 1}}, "00000001xxxx"},
		{[]api.Set{{Field: "proto", Value: 8}, {Field: "dst", Value: 128}}, "100000001000"},
		{[]api.Set{{Field: "dst", Value: 128}, {Field: "proto", Value: 8}}, "100000001000"},
	} {
		if got, e := field.Word(layoutF, c.sets); got != c.want || e != api.OK {
			t.Errorf("P4.6: Word(%v) = %q, %d; want %q", c.sets, got, e, c.want)
		}
	}
}

func TestWordRefusesTheFirstSetThatOffends(t *testing.T) {
	set := func(name string, v int) api.Set { return api.Set{Field: name, Value: v} }
	for _, c := range []struct {
		sets []api.Set
		e    api.Errno
	}{
		{[]api.Set{set("", 0)}, api.ErrNoField},
		{[]api.Set{set("Dst", 0)}, api.ErrNoField},
		{[]api.Set{set("x", 999)}, api.ErrNoField},
		{[]api.Set{set("x", 1), set("x", 1)}, api.ErrNoField},
		{[]api.Set{set("dst", 1), set("x", 1), set("dst", 1)}, api.ErrNoField},
		{[]api.Set{set("dst", 1), set("dst", 1), set("x", 1)}, api.ErrTwice},
		{[]api.Set{set("dst", 1), set("proto", 1), set("dst", 1)}, api.ErrTwice},
		{[]api.Set{set("dst", 1), set("dst", 999)}, api.ErrTwice},
		{[]api.Set{set("dst", 999), set("dst", 999)}, api.ErrValue},
		{[]api.Set{set("dst", 256)}, api.ErrValue},
		{[]api.Set{set("dst", -1)}, api.ErrValue},
		{[]api.Set{set("dst", math.MinInt)}, api.ErrValue},
		{[]api.Set{set("dst", math.MaxInt)}, api.ErrValue},
		{[]api.Set{set("proto", 16)}, api.ErrValue},
		{[]api.Set{set("dst", 16), set("proto", 16)}, api.ErrValue},
		{[]api.Set{set("proto", 16), set("x", 1)}, api.ErrValue},
		{make([]api.Set, 12), api.ErrNoField},
		{make([]api.Set, 13), api.ErrLong},
		{slices.Repeat([]api.Set{set("dst", 1)}, 12), api.ErrTwice},
		{slices.Repeat([]api.Set{set("dst", 1)}, 13), api.ErrLong},
		{make([]api.Set, 100000), api.ErrLong},
	} {
		if got, e := field.Word(layoutF, c.sets); got != "" || e != c.e {
			t.Errorf("P4.6: Word(%.200v) = %q, %d; want %d", c.sets, got, e, c.e)
		}
	}
}

func TestWordOfMixedSets(t *testing.T) {
	var mix source = 53
	for range 20000 {
		fields := mix.layout()
		if mix.below(20) == 0 {
			fields = many(12, 1+mix.below(21))
		}
		sets := make([]api.Set, mix.below(14))
		for k := range sets {
			f := fields[(k*5+mix.below(20)/19)%len(fields)]
			sets[k] = api.Set{Field: f.Name, Value: mix.value(f.Bits) + mix.below(50)/49}
		}
		checkWord(t, fields, sets[:min(len(sets), mix.below(14))])
	}
	full := many(12, 2)
	var sets []api.Set
	for _, f := range full {
		sets = append(sets, api.Set{Field: f.Name, Value: 2})
	}
	if got, e := field.Word(full, sets); got != strings.Repeat("10", 12) || e != api.OK {
		t.Errorf("P4.6: MaxSets sets: %q, %d", got, e)
	}
}

func TestPackRefuses(t *testing.T) {
	for _, c := range []struct {
		values []int
		e      api.Errno
	}{
		{nil, api.ErrArg}, {[]int{}, api.ErrArg}, {[]int{1}, api.ErrArg}, {[]int{1, 2, 3}, api.ErrArg}, {[]int{-1}, api.ErrArg}, {[]int{-1, 1, 1}, api.ErrArg}, {make([]int, 1000000), api.ErrArg},
		{[]int{256, 1}, api.ErrValue}, {[]int{1, 16}, api.ErrValue}, {[]int{-1, 1}, api.ErrValue}, {[]int{1, -1}, api.ErrValue}, {[]int{math.MinInt, 1}, api.ErrValue}, {[]int{1, math.MaxInt}, api.ErrValue}, {[]int{1, math.MinInt}, api.ErrValue}, {[]int{1 << 32, 1}, api.ErrValue},
	} {
		if got, e := field.Pack(layoutF, c.values); got != "" || e != c.e {
			t.Errorf("P4.7: Pack(%.100v) = %q, %d; want %d", c.values, got, e, c.e)
		}
	}
}

func TestUnpackRefuses(t *testing.T) {
	zeros := strings.Repeat("0", 11)
	for _, header := range []string{"", "0", zeros, zeros + "00", zeros + "x", zeros + "2", "x" + zeros, zeros + " ", " " + zeros, zeros + "\n", zeros + "\x00", zeros + "\xff", zeros[1:] + "é", strings.Repeat("x", 12), strings.Repeat("0", 256), strings.Repeat("0", 257), strings.Repeat("0", 16384), strings.Repeat("0", 16385), strings.Repeat("0", 1<<20)} {
		if got, e := field.Unpack(layoutF, header); got != nil || e != api.ErrHeader {
			t.Errorf("P4.8: Unpack(%.40q) = %v, %d", header, got, e)
		}
	}
}

func TestPackAndUnpackGiveBack(t *testing.T) {
	for first := range 256 {
		for second := range 16 {
			values := []int{first, second}
			header, e := field.Pack(layoutF, values)
			if want := binary(8, first) + binary(4, second); header != want || e != api.OK {
				t.Fatalf("P4.7: Pack(%v) = %q, %d; want %q", values, header, e, want)
			}
			if back, e := field.Unpack(layoutF, header); !slices.Equal(back, values) || e != api.OK {
				t.Fatalf("P4.8: Unpack(%q) = %v, %d; want %v", header, back, e, values)
			}
		}
	}
	var mix source = 59
	for range 5000 {
		fields := mix.layout()
		want, values := "", []int(nil)
		for _, f := range fields {
			values = append(values, mix.value(f.Bits))
			want += binary(f.Bits, values[len(values)-1])
		}
		header, e := field.Pack(fields, values)
		if header != want || e != api.OK {
			t.Fatalf("P4.7: Pack(%v, %v) = %q, %d; want %q", fields, values, header, e, want)
		}
		back, e := field.Unpack(fields, header)
		if !slices.Equal(back, values) || e != api.OK {
			t.Fatalf("P4.8: Unpack(%v, %q) = %v, %d; want %v", fields, header, back, e, values)
		}
	}
}

func TestPackAtTheLimits(t *testing.T) {
	wide := many(8, 32)
	ends := []int{0, 1<<32 - 1, 1 << 31, 1, 65536, 1<<31 - 1, 1<<32 - 2, 4278255360}
	header, e := field.Pack(wide, ends)
	if len(header) != api.MaxBits || e != api.OK {
		t.Errorf("P4.7: Pack of the widest layout: %q, %d", header, e)
	}
	if back, e := field.Unpack(wide, header); !slices.Equal(back, ends) || e != api.OK {
		t.Errorf("P4.8: Unpack of the widest layout: %v, %d", back, e)
	}
	ends[3] = 1 << 32
	if header, e := field.Pack(wide, ends); header != "" || e != api.ErrValue {
		t.Errorf("P4.7: 2^32 in 32 bits: %q, %d", header, e)
	}
}
