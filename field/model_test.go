package field_test

// A second telling of chapter 4, by texts of digits and by asking one value after the other, to hold the package against.

import (
	"fmt"
	"regexp"
	"slices"
	"strings"

	"reach/api"
)

var nameForm = regexp.MustCompile(`^[A-Za-z_][A-Za-z_0-9]{0,23}$`)

// tellCheck: what Check is to answer.
func tellCheck(fields []api.Field) (api.Errno, int) {
	if len(fields) > 12 {
		return api.ErrLong, 0
	}
	if len(fields) == 0 {
		return api.ErrFields, 0
	}
	sum, seen := 0, map[string]int{"any": 1, "none": 1}
	for n, f := range fields {
		if f.Bits < 1 || f.Bits > 32 || !nameForm.MatchString(f.Name) || seen[f.Name] > 0 || sum+f.Bits > 256 {
			return api.ErrFields, n
		}
		sum += f.Bits
		seen[f.Name]++
	}
	return api.OK, 0
}

// binary: a value in just so many digits.
func binary(bits, v int) string {
	return fmt.Sprintf("%0*b", bits, v)
}

// tellCover goes down from a prefix: it is whole in the range, or beside it, or its halves tell.
func tellCover(bits, lo, hi int, prefix string) []string {
	least := int(numberOf(prefix + strings.Repeat("0", bits-len(prefix))))
	most := int(numberOf(prefix + strings.Repeat("1", bits-len(prefix))))
	switch {
	case hi < least || most < lo:
		return nil
	case lo <= least && most <= hi:
		return []string{prefix + strings.Repeat("x", bits-len(prefix))}
	}
	return append(tellCover(bits, lo, hi, prefix+"0"), tellCover(bits, lo, hi, prefix+"1")...)
}

func numberOf(digits string) uint64 {
	var v uint64
	for place := range len(digits) {
		v = v*2 + uint64(digits[place]-'0')
	}
	return v
}

// tellFault: the error of a test of a field of that many bits.
func tellFault(b int, t api.Test) api.Errno {
	beyond := func(v int) bool { return v < 0 || v > 1<<b-1 }
	isForm := func(forms ...int) bool { return slices.Contains(forms, t.Form) }
	switch {
	case t.Op < 1 || t.Op > 6 || !isForm(1, 2, 3, 4), t.Op > 2 && !isForm(1):
		return api.ErrTest
	case t.Lo != 0 && isForm(4), t.Hi != 0 && isForm(1, 2, 4), t.Len != 0 && isForm(1, 3, 4), t.Pattern != "" && isForm(1, 2, 3):
		return api.ErrTest
	case beyond(t.Lo), beyond(t.Hi), t.Len < 0, t.Len > b:
		return api.ErrValue
	case isForm(2) && strings.Contains(binary(b, t.Lo)[t.Len:], "1"):
		return api.ErrValue
	case isForm(3) && t.Lo > t.Hi:
		return api.ErrRange
	case isForm(4) && (len(t.Pattern) != b || strings.Trim(t.Pattern, "01x") != ""):
		return api.ErrDigits
	}
	return api.OK
}

// tellHolds: whether a test without a fault holds for a value.
func tellHolds(b int, t api.Test, v int) bool {
	is := false
	switch t.Form {
	case api.FormNumber:
		is = v == t.Lo
	case api.FormPrefix:
		is = binary(b, v)[:t.Len] == binary(b, t.Lo)[:t.Len]
	case api.FormRange:
		is = t.Lo <= v && v <= t.Hi
	case api.FormPattern:
		is = has(t.Pattern, binary(b, v))
	}
	return map[int]bool{1: is, 2: !is, 3: v < t.Lo, 4: v <= t.Lo, 5: v > t.Lo, 6: v >= t.Lo}[t.Op]
}

// has: whether a cube has a header.
func has(cube, header string) bool {
	for place := range len(cube) {
		if cube[place] != 'x' && cube[place] != header[place] {
			return false
		}
	}
	return len(cube) == len(header)
}

// tellPieces: the cubes of a test without a fault, at its field's places.
func tellPieces(b int, t api.Test) []string {
	most := 1<<b - 1
	key := [2]int{t.Op, t.Form}
	switch key {
	case [2]int{1, 3}:
		return tellCover(b, t.Lo, t.Hi, "")
	case [2]int{2, 3}:
		return append(tellSome(b, 0, t.Lo-1), tellSome(b, t.Hi+1, most)...)
	case [2]int{3, 1}:
		return tellSome(b, 0, t.Lo-1)
	case [2]int{4, 1}:
		return tellSome(b, 0, t.Lo)
	case [2]int{5, 1}:
		return tellSome(b, t.Lo+1, most)
	case [2]int{6, 1}:
		return tellSome(b, t.Lo, most)
	}
	one := t.Pattern
	if t.Form != api.FormPattern {
		one = binary(b, t.Lo)
	}
	if t.Form == api.FormPrefix {
		one = one[:t.Len] + strings.Repeat("x", b-t.Len)
	}
	if t.Op == api.OpIs {
		return []string{one}
	}
	var list []string
	for place, digit := range one {
		if digit != 'x' {
			list = append(list, one[:place]+string('0'+'1'-digit)+strings.Repeat("x", b-place-1))
		}
	}
	return list
}

// tellSome is a cover whose range may be empty.
func tellSome(b, lo, hi int) []string {
	if lo > hi {
		return nil
	}
	return tellCover(b, lo, hi, "")
}

// tellCubes: what Cubes is to answer.
func tellCubes(fields []api.Field, t api.Test) ([]string, api.Errno) {
	if e, _ := tellCheck(fields); e != api.OK {
		return nil, e
	}
	ahead, behind, bits := 0, 0, 0
	for _, f := range fields {
		switch {
		case f.Name == t.Field:
			bits = f.Bits
		case bits == 0:
			ahead += f.Bits
		default:
			behind += f.Bits
		}
	}
	if bits == 0 {
		return nil, api.ErrNoField
	}
	if e := tellFault(bits, t); e != api.OK {
		return nil, e
	}
	var cubes []string
	for _, piece := range tellPieces(bits, t) {
		cubes = append(cubes, strings.Repeat("x", ahead)+piece+strings.Repeat("x", behind))
	}
	return cubes, api.OK
}

// tellWord: what Word is to answer.
func tellWord(fields []api.Field, sets []api.Set) (string, api.Errno) {
	if len(sets) > 12 {
		return "", api.ErrLong
	}
	if e, _ := tellCheck(fields); e != api.OK {
		return "", e
	}
	parts := map[string]string{}
	for _, f := range fields {
		parts[f.Name] = strings.Repeat("x", f.Bits)
	}
	for _, s := range sets {
		bits := len(parts[s.Field])
		if bits == 0 {
			return "", api.ErrNoField
		}
		if strings.Trim(parts[s.Field], "x") != "" {
			return "", api.ErrTwice
		}
		if s.Value < 0 || s.Value >= 1<<bits {
			return "", api.ErrValue
		}
		parts[s.Field] = binary(bits, s.Value)
	}
	word := ""
	for _, f := range fields {
		word += parts[f.Name]
	}
	return word, api.OK
}

var (
	allDigits = regexp.MustCompile(`^[01]+$`)
	isPrefix  = regexp.MustCompile(`^([01]+)x+$`)
	isLoose   = regexp.MustCompile(`^x*$`)
)

// tellShow: the text of a cube of a layout.
func tellShow(fields []api.Field, cube string) string {
	var tests []string
	for _, f := range fields {
		digits := cube[:f.Bits]
		cube = cube[f.Bits:]
		v := numberOf(strings.ReplaceAll(digits, "x", "0"))
		quad := fmt.Sprintf("%d.%d.%d.%d", v>>24, v>>16%256, v>>8%256, v%256)
		switch {
		case isLoose.MatchString(digits):
			continue
		case allDigits.MatchString(digits) && v < 65536:
			tests = append(tests, fmt.Sprintf("%s = %d", f.Name, v))
		case allDigits.MatchString(digits):
			tests = append(tests, f.Name+" = "+quad)
		case isPrefix.MatchString(digits):
			tests = append(tests, fmt.Sprintf("%s = %s/%d", f.Name, quad, len(isPrefix.FindStringSubmatch(digits)[1])))
		default:
			tests = append(tests, f.Name+" = %"+digits)
		}
	}
	if len(tests) == 0 {
		return "any"
	}
	return strings.Join(tests, " & ")
}

// eachText calls look with every text of so many bytes of an alphabet.
func eachText(alphabet string, size int, look func(text string)) {
	text := make([]byte, size)
	var fill func(place int)
	fill = func(place int) {
		if place == size {
			look(string(text))
			return
		}
		for k := range len(alphabet) {
			text[place] = alphabet[k]
			fill(place + 1)
		}
	}
	fill(0)
}

// source hands out numbers that look mixed, the same ones each time.
type source uint64

func (s *source) below(n int) int {
	*s = *s*6364136223846793005 + 1442695040888963407
	return int(uint64(*s) >> 33 % uint64(n))
}

// text: so many bytes of an alphabet.
func (s *source) text(alphabet string, size int) string {
	text := make([]byte, size)
	for place := range text {
		text[place] = alphabet[s.below(len(alphabet))]
	}
	return string(text)
}

// value: one of so many bits, near the ends as often as between them.
func (s *source) value(bits int) int {
	v := s.below(1<<min(bits, 31)) << (bits - min(bits, 31)) >> s.below(bits)
	if s.below(2) == 0 {
		return 1<<bits - 1 - v
	}
	return v
}

// layout: some fields with names that differ.
func (s *source) layout() []api.Field {
	fields := make([]api.Field, 1+s.below(8))
	for n := range fields {
		fields[n] = api.Field{Name: string(rune('a' + n)), Bits: 1 + s.below(32)}
	}
	return fields
}
