package field_test

import (
	"math"
	"slices"
	"strings"
	"testing"

	"reach/api"
	"reach/field"
)

func checkCover(t *testing.T, bits, lo, hi int) {
	t.Helper()
	got, e := field.Cover(bits, lo, hi)
	if want := tellCover(bits, lo, hi, ""); !slices.Equal(got, want) || e != api.OK {
		t.Fatalf("P4.3: Cover(%d, %d, %d) = %v, %d; want %v", bits, lo, hi, got, e, want)
	}
}

func TestCoverOfAllSmallRanges(t *testing.T) {
	for bits := 1; bits <= 7; bits++ {
		for lo := range 1 << bits {
			for hi := lo; hi < 1<<bits; hi++ {
				checkCover(t, bits, lo, hi)
			}
		}
	}
}

// The promise's own words: the prefixes that lie within the range and in no longer-reaching prefix that does.
func TestCoverIsTheLongestReachingPrefixes(t *testing.T) {
	const bits = 4
	for lo := range 1 << bits {
		for hi := lo; hi < 1<<bits; hi++ {
			got, _ := field.Cover(bits, lo, hi)
			var want []string
			eachPrefix(bits, func(p string) {
				longer := strings.TrimRight(p, "x")
				inside := lies(p, lo, hi)
				if longer != "" {
					up := longer[:len(longer)-1]
					inside = inside && !lies(up+strings.Repeat("x", bits-len(up)), lo, hi)
				}
				if inside {
					want = append(want, p)
				}
			})
			slices.Sort(want)
			if !slices.Equal(got, want) {
				t.Errorf("P4.3: Cover(%d, %d, %d) = %v; want %v", bits, lo, hi, got, want)
			}
		}
	}
}

func eachPrefix(bits int, look func(p string)) {
	for size := range bits + 1 {
		eachText("01", size, func(text string) { look(text + strings.Repeat("x", bits-size)) })
	}
}

// lies: whether all values of a cube are in a range.
func lies(cube string, lo, hi int) bool {
	return lo <= int(numberOf(strings.ReplaceAll(cube, "x", "0"))) && int(numberOf(strings.ReplaceAll(cube, "x", "1"))) <= hi
}

func TestCoverOfGreatRanges(t *testing.T) {
	for bits := 1; bits <= 32; bits++ {
		most := 1<<bits - 1
		for _, r := range [][2]int{{0, most}, {0, 0}, {most, most}, {0, most - 1}, {1, most}, {most / 2, most/2 + 1}, {most / 2, most}, {0, most / 2}} {
			if r[0] <= r[1] {
				checkCover(t, bits, r[0], r[1])
			}
		}
	}
	var mix source = 43
	for range 5000 {
		bits := 1 + mix.below(32)
		lo, hi := mix.value(bits), mix.value(bits)
		checkCover(t, bits, min(lo, hi), max(lo, hi))
	}
	if list, e := field.Cover(32, 1, 1<<32-2); len(list) != 62 || e != api.OK {
		t.Errorf("P4.3: all but the ends of 32 bits: %d prefixes, %d", len(list), e)
	}
}

func TestCoverRefuses(t *testing.T) {
	for _, c := range []struct {
		bits, lo, hi int
		e            api.Errno
	}{
		{0, 0, 0, api.ErrArg}, {-1, 0, 0, api.ErrArg}, {33, 0, 0, api.ErrArg}, {64, 0, 0, api.ErrArg}, {math.MinInt, 5, 1, api.ErrArg}, {math.MaxInt, -1, 0, api.ErrArg}, {0, -1, -2, api.ErrArg}, {33, 1 << 40, 0, api.ErrArg},
		{1, 0, 2, api.ErrValue}, {1, 2, 2, api.ErrValue}, {1, -1, 0, api.ErrValue}, {1, 0, -1, api.ErrValue}, {4, 16, 3, api.ErrValue}, {4, 3, 16, api.ErrValue}, {4, 5, -1, api.ErrValue}, {32, 0, 1 << 32, api.ErrValue}, {32, 1 << 32, 1 << 32, api.ErrValue}, {32, math.MinInt, math.MaxInt, api.ErrValue}, {32, 0, math.MaxInt, api.ErrValue}, {32, math.MinInt, 0, api.ErrValue}, {31, 0, 1 << 31, api.ErrValue},
		{1, 1, 0, api.ErrRange}, {4, 9, 3, api.ErrRange}, {4, 15, 14, api.ErrRange}, {32, 1<<32 - 1, 0, api.ErrRange}, {32, 1, 0, api.ErrRange},
	} {
		if list, e := field.Cover(c.bits, c.lo, c.hi); list != nil || e != c.e {
			t.Errorf("P4.3: Cover(%d, %d, %d) = %v, %d; want %d", c.bits, c.lo, c.hi, list, e, c.e)
		}
	}
}
