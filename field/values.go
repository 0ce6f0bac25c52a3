package field

import (
	"slices"

	"reach/api"
	"reach/tern"
)

// Word is the rewriting word of sets.
func Word(fields []api.Field, sets []api.Set) (string, api.Errno) {
	if len(sets) > api.MaxSets {
		return "", api.ErrLong
	}
	if e, _ := Check(fields); e != api.OK {
		return "", e
	}
	word := blank(fields)
	for k, s := range sets {
		n := find(fields, s.Field)
		switch {
		case n < 0:
			return "", api.ErrNoField
		case isSet(sets[:k], s.Field):
			return "", api.ErrTwice
		case !fits(s.Value, fields[n].Bits):
			return "", api.ErrValue
		}
		lay(word, fields, n, digits(fields[n].Bits, s.Value, 0))
	}
	return string(word), api.OK
}

func isSet(sets []api.Set, name string) bool {
	return slices.ContainsFunc(sets, func(s api.Set) bool { return s.Field == name })
}

// Pack makes a header of the fields' values.
func Pack(fields []api.Field, values []int) (string, api.Errno) {
	if e, _ := Check(fields); e != api.OK {
		return "", e
	}
	if len(values) != len(fields) {
		return "", api.ErrArg
	}
	header := blank(fields)
	for n, f := range fields {
		if !fits(values[n], f.Bits) {
			return "", api.ErrValue
		}
		lay(header, fields, n, digits(f.Bits, values[n], 0))
	}
	return string(header), api.OK
}

// Unpack tells the fields' values of a header.
func Unpack(fields []api.Field, header string) ([]int, api.Errno) {
	if e, _ := Check(fields); e != api.OK {
		return nil, e
	}
	if !tern.All(widthOf(fields)).Has(header) {
		return nil, api.ErrHeader
	}
	values := make([]int, len(fields))
	for n := range fields {
		values[n] = valueOf(part(header, fields, n))
	}
	return values, api.OK
}
