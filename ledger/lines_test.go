package ledger_test

// P19.9 and P19.10: lines as one text, and back.

import (
	"fmt"
	"regexp"
	"slices"
	"strconv"
	"strings"
	"testing"

	"reach/api"
	"reach/ledger"
)

// packed: the lines as one text, of any length.
func packed(lines []string) string {
	var text strings.Builder
	for _, line := range lines {
		fmt.Fprintf(&text, "%d:%s", len(line), line)
	}
	return text.String()
}

func checkPack(t *testing.T, lines []string) {
	t.Helper()
	text, errno := ledger.Pack(lines)
	want, wantErrno := packed(lines), api.OK
	if len(want) > 16384 {
		want, wantErrno = "", api.ErrLong
	}
	if text != want || errno != wantErrno {
		t.Fatalf("P19.9: Pack(%.99q) = %.99q, %d, want %.99q, %d", lines, text, errno, want, wantErrno)
	}
	if errno == api.OK {
		again, errno := ledger.Unpack(text)
		if !slices.Equal(again, lines) || errno != api.OK {
			t.Fatalf("P19.10: Unpack of Pack(%.99q) = %.99q, %d", lines, again, errno)
		}
	}
}

func TestPack(t *testing.T) {
	x := func(n int) string { return strings.Repeat("x", n) }
	for _, lines := range [][]string{
		nil, {}, {""}, {"", ""}, {"a"}, {"1:a"}, {":"}, {"0:"}, {"\n", "\x00", "\xff\xfe", "é"},
		{x(9)}, {x(10)}, {x(99)}, {x(100)}, {x(999)}, {x(1000)}, {x(9999)}, {x(10000)},
		{x(16378)}, {x(16379)}, {x(16376), ""}, {x(16377), ""}, {"", x(16376)}, {"", x(16377)}, {x(16384)}, {x(16385)}, {x(99999)}, {x(100000)},
		{x(8187), x(8187)}, {x(8188), x(8187)}, {x(8187), x(8188)}, {x(20000), ""}, {x(16379), "", x(20000)},
		make([]string, 8191), make([]string, 8192), make([]string, 8193), make([]string, 100000),
	} {
		checkPack(t, lines)
	}
	text, errno := ledger.Pack(slices.Repeat([]string{x(1 << 20)}, 1<<20))
	check(t, "P19.9: far too much", text, "")
	check(t, "P19.9: far too much", errno, api.ErrLong)
}

func TestMixedLines(t *testing.T) {
	s := source(9)
	for range 3000 {
		lines := make([]string, s.below(8))
		for n := range lines {
			lines[n] = s.line()
		}
		checkPack(t, lines)
	}
}

// unpacked: the lines of a text, read by a pattern; whether there are such.
func unpacked(text string) ([]string, bool) {
	var lines []string
	number := regexp.MustCompile(`^(0|[1-9][0-9]{0,4}):`)
	for text != "" {
		m := number.FindStringSubmatch(text)
		if m == nil {
			return nil, false
		}
		n, _ := strconv.Atoi(m[1])
		text = text[len(m[0]):]
		if len(text) < n {
			return nil, false
		}
		lines, text = append(lines, text[:n]), text[n:]
	}
	return lines, true
}

func checkUnpack(t *testing.T, text string) bool {
	t.Helper()
	lines, errno := ledger.Unpack(text)
	want, ok := unpacked(text)
	wantErrno := api.OK
	switch {
	case len(text) > 16384:
		want, wantErrno = nil, api.ErrLong
	case !ok:
		wantErrno = api.ErrPack
	}
	if !slices.Equal(lines, want) || errno != wantErrno {
		t.Fatalf("P19.10: Unpack(%.99q) = %.99q, %d, want %.99q, %d", text, lines, errno, want, wantErrno)
	}
	if errno == api.OK {
		if again, errno := ledger.Pack(lines); again != text || errno != api.OK {
			t.Fatalf("P19.10: Pack of Unpack(%.99q) = %.99q, %d", text, again, errno)
		}
	}
	return errno == api.OK
}

func TestUnpackRefuses(t *testing.T) {
	x := strings.Repeat("x", 16384)
	for _, text := range []string{
		"a", ":", ":a", "1", "0", "12", "01:a", "00:", "000000:", "00001:a", "2:a", "1:", "1:ab", "0:a", "0:0", "0:1:",
		"-0:", "-1:", "-1:a", "+0:", "+1:a", " 1:a", "1 :a", "1:a ", "1:a\n", "\n", "1;a", "1.0:a", "1_0:aaaaaaaaaa", "0x1:a", "1e0:a", "٣:abc", "１:a", "\x001:a",
		"99999:", "100000:" + x[:9000], "000001:a", "18446744073709551617:a", "9223372036854775808:", "4294967297:a", "65537:a", x, strings.Repeat("1", 16384), strings.Repeat("0", 16383) + ":",
	} {
		if checkUnpack(t, text) {
			t.Errorf("P19.10: Unpack takes %.60q", text)
		}
		if checkUnpack(t, "3:abc"+text) {
			t.Errorf("P19.10: Unpack takes %.60q behind a line", text)
		}
	}
	for _, text := range []string{"16378:" + x[:16378] + "y", x + "y", strings.Repeat("0:", 8193), strings.Repeat("?", 1<<20)} {
		_, errno := ledger.Unpack(text)
		check(t, "P19.10: too long, whatever it is", errno, api.ErrLong)
		checkUnpack(t, text)
	}
	for _, text := range []string{"", "1: ", "1::", "2:0:", "0:0:0:", "16378:" + x[:16378], strings.Repeat("0:", 8192), "10:0123456789", "5:1:a\n\x00"} {
		if !checkUnpack(t, text) {
			t.Errorf("P19.10: Unpack refuses %.60q", text)
		}
	}
}

// All short texts of the bytes that matter.
func TestUnpackOfEveryShortText(t *testing.T) {
	const letters = "0123:a-"
	taken := 0
	var from func(text string)
	from = func(text string) {
		if checkUnpack(t, text) {
			taken++
		}
		if len(text) < 6 {
			for n := range len(letters) {
				from(text + letters[n:n+1])
			}
		}
	}
	from("")
	if taken < 100 {
		t.Errorf("P19.10: only %d texts are taken", taken)
	}
}

func TestUnpackOfHarmedTexts(t *testing.T) {
	s := source(10)
	taken := 0
	for range 3000 {
		lines := make([]string, 1+s.below(6))
		for n := range lines {
			lines[n] = s.line()
		}
		text := string(s.harmed([]byte(packed(lines))))
		if checkUnpack(t, text) {
			taken++
		}
	}
	if taken < 100 || taken > 2900 {
		t.Errorf("P19.10: %d of 3000 texts are taken", taken)
	}
}
