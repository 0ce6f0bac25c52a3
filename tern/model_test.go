package tern_test

// A second telling of chapter 1, on texts and on whole lists of headers, to hold the cubes against.

import "strings"

// cubesOf: the texts of all cubes of a width.
func cubesOf(width int) []string {
	return words(width, "01x")
}

// headersOf: all headers of a width, the least first.
func headersOf(width int) []string {
	return words(width, "01")
}

func words(width int, digits string) []string {
	list := []string{""}
	for range width {
		var longer []string
		for _, w := range list {
			for _, d := range digits {
				longer = append(longer, w+string(d))
			}
		}
		list = longer
	}
	return list
}

// holds: whether a header is in the cube of that text.
func holds(cube, header string) bool {
	for i := range cube {
		if cube[i] != 'x' && cube[i] != header[i] {
			return false
		}
	}
	return len(cube) == len(header)
}

// membersOf: the headers of a cube, found by looking at all.
func membersOf(cube string) []string {
	var list []string
	for _, h := range headersOf(len(cube)) {
		if holds(cube, h) {
			list = append(list, h)
		}
	}
	return list
}

// pairwise makes a text place by place of two of one width; false, if one says 0 at some place (byte 0).
func pairwise(a, b string, digit func(a, b byte) byte) (string, bool) {
	out := make([]byte, len(a))
	for i := range out {
		out[i] = digit(a[i], b[i])
		if out[i] == 0 {
			return "", false
		}
	}
	return string(out), true
}

func meetText(a, b string) (string, bool) {
	return pairwise(a, b, func(a, b byte) byte {
		switch {
		case a == 'x':
			return b
		case b == 'x' || a == b:
			return a
		}
		return 0
	})
}

func writeText(c, r string) string {
	text, _ := pairwise(c, r, func(c, r byte) byte {
		if r == 'x' {
			return c
		}
		return r
	})
	return text
}

func beforeText(c, r string) (string, bool) {
	return pairwise(c, r, func(c, r byte) byte {
		switch {
		case r == 'x':
			return c
		case c == r || c == 'x':
			return 'x'
		}
		return 0
	})
}

func hullText(a, b string) string {
	text, _ := pairwise(a, b, func(a, b byte) byte {
		if a == b {
			return a
		}
		return 'x'
	})
	return text
}

func withinText(c, d string) bool {
	for i := range c {
		if d[i] != 'x' && d[i] != c[i] {
			return false
		}
	}
	return true
}

func splitText(c, d string) []string {
	if _, ok := meetText(c, d); !ok {
		return []string{c}
	}
	var list []string
	for i := range c {
		if d[i] == 'x' || c[i] != 'x' {
			continue
		}
		other := string('0' + '1' - d[i])
		list = append(list, c[:i]+other+c[i+1:])
		c = c[:i] + d[i:i+1] + c[i+1:]
	}
	return list
}

// wide: texts of widths beside the borders of the words, with few, some and many x, always the same ones.
func wide() [][]string {
	var groups [][]string
	state := uint32(1)
	for _, width := range []int{1, 2, 31, 32, 33, 63, 64, 65, 127, 128, 129, 191, 192, 193, 255, 256} {
		var group []string
		for _, digits := range []string{"01", "01x", "01xxxxxx", "0xxxxxxxxxxxxxxx", "1xxxxxxxxxxxxxxx", "x"} {
			for range 4 {
				var b strings.Builder
				for range width {
					state = state*1664525 + 1013904223
					b.WriteByte(digits[int(state>>16)%len(digits)])
				}
				group = append(group, b.String())
			}
		}
		groups = append(groups, group)
	}
	return groups
}
