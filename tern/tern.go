// Package tern: one ternary cube: see DOC.md, chapter 1.
package tern

import (
	"iter"
	"slices"

	"reach/api"
)

const (
	wordBits = 64
	words    = (api.MaxBits + wordBits - 1) / wordBits
)

// row has one bit for each place of a header. The first place is the lowest bit of the first word, so that word & -word is the first place of a word.
type row [words]uint64

// Cube is a ternary word, or the cube without a bit (its zero value). Two cubes are equal by == just if their texts are: for that no bit is ever set behind the width, nor in ones where fixed has none.
type Cube struct {
	width int
	fixed row // the places with 0 or 1
	ones  row // the places with 1
}

// Parse reads a cube's text.
func Parse(text string) (Cube, api.Errno) {
	if len(text) > api.MaxBits {
		return Cube{}, api.ErrLong
	}
	if text == "" {
		return Cube{}, api.ErrCube
	}
	c := All(len(text))
	for place := range len(text) {
		word, bit := spot(place)
		switch text[place] {
		case '0':
			c.fixed[word] |= bit
		case '1':
			c.fixed[word] |= bit
			c.ones[word] |= bit
		case 'x':
		default:
			return Cube{}, api.ErrCube
		}
	}
	return c, api.OK
}

// All is the cube of all headers of that width.
func All(bits int) Cube {
	if bits < 1 || bits > api.MaxBits {
		return Cube{}
	}
	return Cube{width: bits}
}

// Text gives the cube's text back.
func (c Cube) Text() string {
	text := make([]byte, c.width)
	for place := range text {
		text[place] = c.at(place)
	}
	return string(text)
}

// Has tells whether a header is in the cube.
func (c Cube) Has(header string) bool {
	if c.width == 0 || len(header) != c.width {
		return false
	}
	for place := range c.width {
		digit, own := header[place], c.at(place)
		if digit != '0' && digit != '1' || own != 'x' && own != digit {
			return false
		}
	}
	return true
}

// Meet is what two cubes have in common.
func (c Cube) Meet(d Cube) (Cube, bool) {
	if !c.agrees(d) {
		return Cube{}, false
	}
	return c.common(d), true
}

// Within tells whether all of c is in d.
func (c Cube) Within(d Cube) bool {
	for w := range words {
		// Most cubes show by their places alone that they are not, and a table is made of very many such questions.
		if d.fixed[w]&^c.fixed[w] != 0 {
			return false
		}
	}
	return c.agrees(d) && c.common(d) == c
}

// Split is c without d, as cubes of which no two meet.
func (c Cube) Split(d Cube) []Cube {
	if !c.agrees(d) {
		return []Cube{c}
	}
	var pieces []Cube
	rest := c
	for w := range words {
		for open := d.fixed[w] &^ c.fixed[w]; open != 0; open &= open - 1 {
			bit := open & -open
			pieces = append(pieces, rest.fix(w, bit, ^d.ones[w]))
			rest = rest.fix(w, bit, d.ones[w])
		}
	}
	return pieces
}

// Write writes the digits 0 and 1 of r over those of c.
func (c Cube) Write(r Cube) Cube {
	if !c.fits(r) {
		return Cube{}
	}
	for w := range words {
		c.fixed[w] |= r.fixed[w]
		c.ones[w] = c.ones[w]&^r.fixed[w] | r.ones[w]
	}
	return c
}

// Before is the cube of all headers that r writes into c.
func (c Cube) Before(r Cube) (Cube, bool) {
	if !c.agrees(r) {
		return Cube{}, false
	}
	for w := range words {
		c.fixed[w] &^= r.fixed[w]
		c.ones[w] &^= r.fixed[w]
	}
	return c, true
}

// Hull is the least cube that all of them are within.
func Hull(first Cube, more ...Cube) (Cube, api.Errno) {
	if first.width == 0 {
		return Cube{}, api.ErrWidth
	}
	hull := first
	for _, d := range more {
		if !hull.fits(d) {
			return Cube{}, api.ErrWidth
		}
		for w := range words {
			hull.fixed[w] &= d.fixed[w] &^ (hull.ones[w] ^ d.ones[w])
			hull.ones[w] &= hull.fixed[w]
		}
	}
	return hull, api.OK
}

// Members goes through the cube's headers, the least first, as far as it is asked.
func (c Cube) Members() iter.Seq[string] {
	return func(yield func(string) bool) {
		if c.width == 0 {
			return
		}
		// The header and its free places belong to this one loop: another loop over the same closure has its own.
		header, free := c.least()
		for yield(string(header)) && advance(header, free) {
		}
	}
}

// least is the least header of c, and the places at which its other headers may differ from it.
func (c Cube) least() (header []byte, free []int) {
	header = []byte(c.Text())
	for place, digit := range header {
		if digit == 'x' {
			header[place] = '0'
			free = append(free, place)
		}
	}
	return header, free
}

// advance counts the header on, as a number whose digits are its free places; false, if it was the greatest.
func advance(header []byte, free []int) bool {
	for _, place := range slices.Backward(free) {
		if header[place] == '0' {
			header[place] = '1'
			return true
		}
		header[place] = '0'
	}
	return false
}

// fits tells whether two cubes have one width, and one that is not 0.
func (c Cube) fits(d Cube) bool {
	return c.width != 0 && c.width == d.width
}

// agrees tells whether two cubes fit and nowhere one has 0 and the other 1.
func (c Cube) agrees(d Cube) bool {
	if !c.fits(d) {
		return false
	}
	for w := range words {
		if c.fixed[w]&d.fixed[w]&(c.ones[w]^d.ones[w]) != 0 {
			return false
		}
	}
	return true
}

// common is what two cubes that agree have in common.
func (c Cube) common(d Cube) Cube {
	for w := range words {
		c.fixed[w] |= d.fixed[w]
		c.ones[w] |= d.ones[w]
	}
	return c
}

// fix is c with the digit that digits has at the bit, at a place where c has x.
func (c Cube) fix(word int, bit, digits uint64) Cube {
	c.fixed[word] |= bit
	c.ones[word] |= bit & digits
	return c
}

// at is the byte of c's text at a place.
func (c Cube) at(place int) byte {
	word, bit := spot(place)
	switch {
	case c.fixed[word]&bit == 0:
		return 'x'
	case c.ones[word]&bit == 0:
		return '0'
	}
	return '1'
}

// spot tells where in a row a place stands: the word, and the bit in it.
func spot(place int) (word int, bit uint64) {
	return place / wordBits, 1 << (place % wordBits)
}
