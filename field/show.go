package field

import (
	"strconv"
	"strings"

	"reach/api"
	"reach/scan"
)

// plainBelow: numbers from here on are told as dotted quads.
const plainBelow = 65536

// Show tells a header, or a cube, field by field.
func Show(fields []api.Field, header string) (string, api.Errno) {
	if e, _ := Check(fields); e != api.OK {
		return "", e
	}
	if !isCube(header, widthOf(fields)) {
		return "", api.ErrHeader
	}
	var tests []string
	for n, f := range fields {
		if digits := part(header, fields, n); strings.ContainsAny(digits, "01") {
			tests = append(tests, f.Name+" = "+tell(digits))
		}
	}
	if len(tests) == 0 {
		return "any", api.OK
	}
	return strings.Join(tests, " & "), api.OK
}

// tell writes what stands at a field's places as the value of a test.
func tell(digits string) string {
	value, ahead := valueOf(digits), strings.TrimRight(digits, "x")
	switch {
	case strings.Contains(ahead, "x"):
		return "%" + digits
	case len(ahead) < len(digits):
		return number(value, true) + "/" + strconv.Itoa(len(ahead))
	}
	return number(value, value >= plainBelow)
}

// number writes a field's value: it is one that a text may have.
func number(value int, dotted bool) string {
	text, _ := scan.Number(value, dotted)
	return text
}
