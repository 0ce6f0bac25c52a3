package field

import (
	"math/bits"

	"reach/api"
	"reach/tern"
)

// What a form uses of a test.
var uses = [...]struct{ lo, hi, length, pattern bool }{
	api.FormNumber:  {lo: true},
	api.FormPrefix:  {lo: true, length: true},
	api.FormRange:   {lo: true, hi: true},
	api.FormPattern: {pattern: true},
}

// Cover is the fewest prefixes that make up a range.
func Cover(bits, lo, hi int) ([]string, api.Errno) {
	switch {
	case bits < 1 || bits > api.MaxFieldBits:
		return nil, api.ErrArg
	case !fits(lo, bits) || !fits(hi, bits):
		return nil, api.ErrValue
	case lo > hi:
		return nil, api.ErrRange
	}
	return prefixes(bits, lo, hi), api.OK
}

// prefixes covers a range that may be empty. From each value on the prefix reaches as far as the value's last zeros and the range's end let it.
func prefixes(width, lo, hi int) []string {
	var list []string
	for lo <= hi {
		free := min(bits.TrailingZeros(uint(lo)), bits.Len(uint(hi-lo+1))-1)
		list = append(list, digits(width, lo, free))
		lo += 1 << free
	}
	return list
}

// Cubes are the headers that a test holds for.
func Cubes(fields []api.Field, t api.Test) ([]string, api.Errno) {
	if e, _ := Check(fields); e != api.OK {
		return nil, e
	}
	n := find(fields, t.Field)
	if n < 0 {
		return nil, api.ErrNoField
	}
	if e := fault(fields[n].Bits, t); e != api.OK {
		return nil, e
	}
	var cubes []string
	for _, piece := range pieces(fields[n].Bits, t) {
		cube := blank(fields)
		lay(cube, fields, n, piece)
		cubes = append(cubes, string(cube))
	}
	return cubes, api.OK
}

// fault is what is wrong with a test of a field of that width.
func fault(bits int, t api.Test) api.Errno {
	switch {
	case !isTest(t):
		return api.ErrTest
	case !fits(t.Lo, bits) || !fits(t.Hi, bits) || t.Len < 0 || t.Len > bits:
		return api.ErrValue
	case t.Form == api.FormPrefix && t.Lo&greatest(bits-t.Len) != 0:
		return api.ErrValue
	case t.Form == api.FormRange && t.Lo > t.Hi:
		return api.ErrRange
	case t.Form == api.FormPattern && !isCube(t.Pattern, bits):
		return api.ErrDigits
	}
	return api.OK
}

// isTest: whether there is such a test, of a field of whatever width.
func isTest(t api.Test) bool {
	if t.Op < api.OpIs || t.Op > api.OpLeast || t.Form < api.FormNumber || t.Form > api.FormPattern {
		return false
	}
	if t.Op != api.OpIs && t.Op != api.OpNot && t.Form != api.FormNumber {
		return false
	}
	used := uses[t.Form]
	return (used.lo || t.Lo == 0) && (used.hi || t.Hi == 0) && (used.length || t.Len == 0) && (used.pattern || t.Pattern == "")
}

func isCube(text string, width int) bool {
	_, e := tern.Parse(text)
	return e == api.OK && len(text) == width
}

// pieces are the cubes of a test at the places of its field.
func pieces(bits int, t api.Test) []string {
	bound := t.Lo
	switch t.Op {
	case api.OpMost:
		bound++
		fallthrough
	case api.OpBelow:
		return prefixes(bits, 0, bound-1)
	case api.OpLeast:
		bound--
		fallthrough
	case api.OpAbove:
		return prefixes(bits, bound+1, greatest(bits))
	case api.OpNot:
		return others(bits, t)
	}
	if t.Form == api.FormRange {
		return prefixes(bits, t.Lo, t.Hi)
	}
	return []string{one(bits, t)}
}

// others are the pieces of a denied test.
func others(bits int, t api.Test) []string {
	if t.Form == api.FormRange {
		return append(prefixes(bits, 0, t.Lo-1), prefixes(bits, t.Hi+1, greatest(bits))...)
	}
	denied, _ := tern.Parse(one(bits, t))
	var list []string
	for _, c := range tern.All(bits).Split(denied) {
		list = append(list, c.Text())
	}
	return list
}

// one is the one cube of a test of any form but a range.
func one(bits int, t api.Test) string {
	switch t.Form {
	case api.FormPattern:
		return t.Pattern
	case api.FormPrefix:
		return digits(bits, t.Lo, bits-t.Len)
	}
	return digits(bits, t.Lo, 0)
}
