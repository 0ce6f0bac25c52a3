package scan

import (
	"strings"
	"unicode/utf8"
)

// The classes of characters: the steps of the machine hang on nothing else.
const (
	classEnd = iota // behind the text's last character
	classLine
	classBlank
	classLetter
	classDigit
	classDot
	classPercent
	classQuote
	classHash
	classOther
)

// Numbers that no character has.
const (
	loose rune = -1 // a byte that belongs to no well-formed sequence
	ended rune = -2 // behind the text's last character
)

const deleted = '\x7f'

// char is a character, and the number of bytes ahead of it.
type char struct {
	r  rune
	at int
}

// charsOf: the characters of a text. One more stands for the text's end, so that whoever looks at the next character needs no bound.
func charsOf(text string) []char {
	list := make([]char, 0, len(text)+1)
	for at, r := range text {
		if r == utf8.RuneError && !strings.HasPrefix(text[at:], string(utf8.RuneError)) {
			r = loose
		}
		list = append(list, char{r, at})
	}
	return append(list, char{ended, len(text)})
}

func classOf(r rune) int {
	switch r {
	case ended:
		return classEnd
	case '\n':
		return classLine
	case ' ', '\t', '\r':
		return classBlank
	case '.':
		return classDot
	case '%':
		return classPercent
	case '"':
		return classQuote
	case '#':
		return classHash
	}
	switch {
	case 'a' <= r && r <= 'z', 'A' <= r && r <= 'Z', r == '_':
		return classLetter
	case '0' <= r && r <= '9':
		return classDigit
	}
	return classOther
}
