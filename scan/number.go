package scan

import (
	"strconv"
	"strings"

	"reach/api"
)

const (
	hexMost  = 8 // digits
	twosMost = 32
	partMost = 255 // of a dotted quad's parts
)

// Value reads a number or a dotted quad.
func Value(lit string) (int, api.Errno) {
	if len(lit) > api.MaxText {
		return 0, api.ErrLong
	}
	v, ok := valueOf(lit)
	if !ok {
		return 0, api.ErrNumber
	}
	return v, api.OK
}

func valueOf(lit string) (int, bool) {
	if digits, ok := strings.CutPrefix(lit, "0x"); ok {
		return digitsOf(digits, 16, hexMost)
	}
	if digits, ok := strings.CutPrefix(lit, "0b"); ok {
		return digitsOf(digits, 2, twosMost)
	}
	if strings.Contains(lit, ".") {
		return quadOf(lit)
	}
	return decimalOf(lit, api.MaxNumber)
}

// digitsOf reads at most most digits of a base.
func digitsOf(digits string, base, most int) (int, bool) {
	v, err := strconv.ParseUint(digits, base, 64)
	return int(v), err == nil && len(digits) <= most
}

// decimalOf reads a decimal number that is not above most. It has one form only: signs and leading zeros are told by writing it again.
func decimalOf(digits string, most int) (int, bool) {
	v, err := strconv.Atoi(digits)
	return v, err == nil && 0 <= v && v <= most && strconv.Itoa(v) == digits
}

func quadOf(lit string) (int, bool) {
	v, parts := 0, 0
	for digits := range strings.SplitSeq(lit, ".") {
		part, ok := decimalOf(digits, partMost)
		if !ok {
			return 0, false
		}
		v = v<<8 | part
		parts++
	}
	return v, parts == 4
}

// Number writes a number in decimal digits, or as a dotted quad.
func Number(v int, dotted bool) (string, api.Errno) {
	if v < 0 || v > api.MaxNumber {
		return "", api.ErrNumber
	}
	if !dotted {
		return strconv.Itoa(v), api.OK
	}
	text := strconv.Itoa(v >> 24)
	for _, shift := range [...]int{16, 8, 0} {
		text += "." + strconv.Itoa(v>>shift&partMost)
	}
	return text, api.OK
}
