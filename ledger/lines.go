package ledger

import (
	"strconv"
	"strings"

	"reach/api"
)

// Pack writes lines as one text.
func Pack(lines []string) (string, api.Errno) {
	var text strings.Builder
	for _, line := range lines {
		head := strconv.Itoa(len(line)) + ":"
		if text.Len()+len(head)+len(line) > api.MaxText {
			return "", api.ErrLong
		}
		text.WriteString(head)
		text.WriteString(line)
	}
	return text.String(), api.OK
}

// Unpack reads them again.
func Unpack(text string) ([]string, api.Errno) {
	if len(text) > api.MaxText {
		return nil, api.ErrLong
	}
	var lines []string
	for rest := text; rest != ""; {
		line, behind, ok := cutLine(rest)
		if !ok {
			return nil, api.ErrPack
		}
		lines = append(lines, strings.Clone(line))
		rest = behind
	}
	return lines, api.OK
}

// cutLine is the first line of a packed text, and what stands behind it.
func cutLine(text string) (line, behind string, ok bool) {
	digits, rest, found := strings.Cut(text, ":")
	count, err := strconv.Atoi(digits)
	if !found || err != nil || count < 0 || count > len(rest) {
		return "", "", false
	}
	// Atoi reads numbers that Pack writes otherwise: 01, +1, -0.
	if strconv.Itoa(count) != digits {
		return "", "", false
	}
	return rest[:count], rest[count:], true
}
