package scan_test

import (
	"strconv"
	"strings"
	"testing"

	"reach/api"
	"reach/scan"
)

// checkValue holds Value against its second telling.
func checkValue(t *testing.T, lit string) {
	t.Helper()
	v, e := scan.Value(lit)
	if want, wantE := tellValue(lit); v != want || e != wantE {
		t.Fatalf("P3.7: Value(%.200q) = %d, %d; want %d, %d", lit, v, e, want, wantE)
	}
}

func TestValueReads(t *testing.T) {
	for _, c := range []struct {
		lit string
		v   int
	}{
		{"0", 0}, {"1", 1}, {"9", 9}, {"10", 10}, {"4294967295", 4294967295},
		{"0x0", 0}, {"0x1F", 31}, {"0xabcdef", 0xabcdef}, {"0xABCDEF", 0xabcdef}, {"0xffffffff", 4294967295}, {"0x00000001", 1},
		{"0b0", 0}, {"0b101", 5}, {"0b" + strings.Repeat("1", 32), 4294967295}, {"0b" + strings.Repeat("0", 31) + "1", 1},
		{"0.0.0.0", 0}, {"10.0.0.1", 167772161}, {"1.2.3.4", 0x01020304}, {"255.255.255.255", 4294967295}, {"0.0.1.0", 256},
	} {
		if v, e := scan.Value(c.lit); v != c.v || e != api.OK {
			t.Errorf("P3.7: Value(%q) = %d, %d; want %d", c.lit, v, e, c.v)
		}
		checkValue(t, c.lit)
	}
}

func TestValueRefuses(t *testing.T) {
	for _, lit := range []string{
		"", " ", "00", "01", "007", "-0", "-1", "+1", " 1", "1 ", "1\n", "1_0", "1e3", "a", "\xff", "\u0661",
		"4294967296", "42949672950", "9223372036854775807", "9223372036854775808", "18446744073709551615", "18446744073709551616", "18446744073709551617", strings.Repeat("9", 16384),
		"0x", "0xg", "0X1", "0x-1", "0x+1", "0x 1", "0x1_0", "0x000000001", "0x100000000", "x1", "00x1", "0x0x1",
		"0b", "0b2", "0B1", "0b-1", "0b" + strings.Repeat("0", 33), "0b" + strings.Repeat("1", 65), "0b_1",
		"1.", ".1", ".", "...", "1.2", "1.2.3", "1.2.3.", ".1.2.3", "1..2.3", "1.2.3.4.", "1.2.3.4.5", "1.2.3.4.5.6.7.8", "256.0.0.0", "0.256.0.0", "0.0.256.0", "0.0.0.256", "1.2.3.04", "00.0.0.0", "-1.0.0.0", "1.2.3.+4", "1.2.3.0x4", "1.2.3. 4", strings.Repeat("1.", 8192), "0x1.0.0.0", "0b1.0.0.0", "1.2.3.99999999999999999999",
	} {
		if v, e := scan.Value(lit); v != 0 || e != api.ErrNumber {
			t.Errorf("P3.7: Value(%.40q) = %d, %d", lit, v, e)
		}
		checkValue(t, lit)
	}
	for _, lit := range []string{strings.Repeat("1", 16385), strings.Repeat(" ", 16385), strings.Repeat("0", 1<<20)} {
		if v, e := scan.Value(lit); v != 0 || e != api.ErrLong {
			t.Errorf("P3.7: Value of %d bytes = %d, %d", len(lit), v, e)
		}
	}
}

func TestValueOfAllShortTexts(t *testing.T) {
	eachText([]string{"0", "1", "9", "x", "b", "f", ".", "-", "_"}, 5, func(lit string) { checkValue(t, lit) })
	eachText([]string{"0", "25", "5", "6", "."}, 8, func(lit string) { checkValue(t, lit) })
}

func TestNumberWrites(t *testing.T) {
	for _, c := range []struct {
		v           int
		plain, quad string
	}{
		{0, "0", "0.0.0.0"},
		{1, "1", "0.0.0.1"},
		{255, "255", "0.0.0.255"},
		{256, "256", "0.0.1.0"},
		{65535, "65535", "0.0.255.255"},
		{65536, "65536", "0.1.0.0"},
		{167772161, "167772161", "10.0.0.1"},
		{0x01020304, "16909060", "1.2.3.4"},
		{4294967295, "4294967295", "255.255.255.255"},
	} {
		if s, e := scan.Number(c.v, false); s != c.plain || e != api.OK {
			t.Errorf("P3.8: Number(%d, false) = %q, %d", c.v, s, e)
		}
		if s, e := scan.Number(c.v, true); s != c.quad || e != api.OK {
			t.Errorf("P3.8: Number(%d, true) = %q, %d", c.v, s, e)
		}
	}
	for _, v := range []int{-1, -255, -1 << 31, -1 << 63, 4294967296, 1 << 40, 1<<63 - 1} {
		for _, dotted := range []bool{false, true} {
			if s, e := scan.Number(v, dotted); s != "" || e != api.ErrNumber {
				t.Errorf("P3.8: Number(%d, %v) = %q, %d", v, dotted, s, e)
			}
		}
	}
}

func TestNumbersAreReadBack(t *testing.T) {
	for v := 0; v <= api.MaxNumber; v += 1 + v/997 {
		for _, n := range []int{v, api.MaxNumber - v} {
			for _, dotted := range []bool{false, true} {
				s, e := scan.Number(n, dotted)
				back, backE := scan.Value(s)
				if e != api.OK || back != n || backE != api.OK || dotted != strings.Contains(s, ".") {
					t.Fatalf("P3.8: Number(%d, %v) = %q, %d; read back: %d, %d", n, dotted, s, e, back, backE)
				}
				checkValue(t, s)
			}
			checkValue(t, "0x"+strconv.FormatInt(int64(n), 16))
			checkValue(t, "0b"+strconv.FormatInt(int64(n), 2))
		}
	}
}
