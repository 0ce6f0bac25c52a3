package expr

import (
	"strings"

	"reach/api"
	"reach/field"
	"reach/scan"
	"reach/space"
	"reach/tern"
)

// plainBelow: numbers from here on are told as dotted quads.
const plainBelow = 65536

// leaf is what all leaves have in common that no layout and no text speaks against.
type leaf struct{}

func (leaf) fault([]api.Field) api.Errno { return api.OK }

func (leaf) isGiven() bool { return true }

func (leaf) nesting() int { return 0 }

type anyLeaf struct{ leaf }

func (anyLeaf) text() string { return wordAny }

func (anyLeaf) holds(packet) bool { return true }

func (anyLeaf) headers(fields []api.Field) (space.Space, api.Errno) {
	return space.Of(tern.All(widthOf(fields)))
}

type noneLeaf struct{ leaf }

func (noneLeaf) text() string { return wordNone }

func (noneLeaf) holds(packet) bool { return false }

func (noneLeaf) headers(fields []api.Field) (space.Space, api.Errno) {
	return space.None(widthOf(fields)), api.OK
}

// testLeaf asks one field.
type testLeaf struct {
	leaf
	api.Test
}

func (t testLeaf) fault(fields []api.Field) api.Errno {
	_, errno := field.Cubes(fields, t.Test)
	return errno
}

// isGiven reads what would be written: just the tests that come back are ones that a text gives.
func (t testLeaf) isGiven() bool {
	read, _, _ := Parse(t.text())
	return len(read) == 1 && read[0] == api.Node{Kind: api.NodeTest, Test: t.Test}
}

// text writes whatever test it is; of one that no text gives it makes something that is read otherwise, or not at all.
func (t testLeaf) text() string {
	sign := ""
	if api.OpIs <= t.Op && t.Op <= api.OpLeast {
		sign = opSigns[t.Op]
	}
	return t.Field + " " + sign + " " + t.value()
}

func (t testLeaf) value() string {
	switch t.Form {
	case api.FormNumber:
		return number(t.Lo)
	case api.FormPrefix:
		return quad(t.Lo) + signSlash + number(t.Len)
	case api.FormRange:
		return number(t.Lo) + signSpan + number(t.Hi)
	case api.FormPattern:
		return percent + t.Pattern
	}
	return ""
}

// number writes a number; nothing, if no text has it.
func number(v int) string {
	if v >= plainBelow {
		return quad(v)
	}
	text, _ := scan.Number(v, false)
	return text
}

func quad(v int) string {
	text, _ := scan.Number(v, true)
	return text
}

// packet is a header by the values of its fields.
type packet struct {
	fields []api.Field
	values []int
}

// look is a field's value, and how many bits it has.
func (p packet) look(name string) (value, bits int) {
	for n, f := range p.fields {
		if f.Name == name {
			return p.values[n], f.Bits
		}
	}
	return 0, 0
}

func (t testLeaf) holds(p packet) bool {
	value, bits := p.look(t.Field)
	switch t.Op {
	case api.OpNot:
		return !t.has(value, bits)
	case api.OpBelow:
		return value < t.Lo
	case api.OpMost:
		return value <= t.Lo
	case api.OpAbove:
		return value > t.Lo
	case api.OpLeast:
		return value >= t.Lo
	}
	return t.has(value, bits)
}

// has: whether a value of so many bits is one of those that the test names.
func (t testLeaf) has(value, bits int) bool {
	switch t.Form {
	case api.FormPrefix:
		free := bits - t.Len
		return value>>free == t.Lo>>free
	case api.FormRange:
		return t.Lo <= value && value <= t.Hi
	case api.FormPattern:
		return fits(value, t.Pattern)
	}
	return value == t.Lo
}

// fits: whether the bits of a value, the highest first, are those of a pattern wherever that has no x.
func fits(value int, pattern string) bool {
	for place, digit := range []byte(pattern) {
		bit := value >> (len(pattern) - 1 - place) & 1
		if digit != 'x' && int(digit-'0') != bit {
			return false
		}
	}
	return true
}

func (t testLeaf) headers(fields []api.Field) (space.Space, api.Errno) {
	if t.Op == api.OpNot {
		t.Op = api.OpIs
		return denial{t}.headers(fields)
	}
	cubes, errno := field.Cubes(fields, t.Test)
	if errno != api.OK {
		return space.Space{}, errno
	}
	if len(cubes) == 0 {
		return space.None(widthOf(fields)), api.OK
	}
	return space.Parse(widthOf(fields), strings.Join(cubes, "+"))
}
