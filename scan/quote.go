package scan

import (
	"strconv"
	"unicode/utf8"

	"reach/api"
)

const hexDigits = "0123456789abcdef"

// The escapes of one letter.
var shorts = [...]struct{ letter, says rune }{
	{'"', '"'},
	{'\\', '\\'},
	{'n', '\n'},
	{'r', '\r'},
	{'t', '\t'},
}

// Characters that are not seen, from the one to the other.
var unseen = [...]struct{ from, to rune }{
	{0x80, 0x9f},
	{0x200b, 0x200f},
	{0x2028, 0x202e},
	{0xfeff, 0xfeff},
}

// Quote writes a text as a quoted one.
func Quote(s string) (string, api.Errno) {
	if len(s) > api.MaxString {
		return "", api.ErrString
	}
	text := []byte{'"'}
	for _, c := range charsOf(s) {
		if c.r != ended {
			text = appendPiece(text, c.r, s[c.at])
		}
	}
	return string(append(text, '"')), api.OK
}

// appendPiece writes a character whose first byte is b.
func appendPiece(text []byte, r rune, b byte) []byte {
	for _, s := range shorts {
		if s.says == r {
			return append(text, '\\', byte(s.letter))
		}
	}
	if barred(r) {
		return append(text, '\\', 'x', hexDigits[b>>4], hexDigits[b&15])
	}
	for _, u := range unseen {
		if u.from <= r && r <= u.to {
			text = append(text, `\u{`...)
			text = strconv.AppendInt(text, int64(r), 16)
			return append(text, '}')
		}
	}
	return utf8.AppendRune(text, r)
}

// barred: whether a character may not stand in a quoted text as itself, and does not end it either.
func barred(r rune) bool {
	return r < ' ' || r == deleted // loose bytes are below all characters
}

// Unquote reads a quoted text; behind an error: the byte where it is.
func Unquote(lit string) (string, api.Errno, int) {
	if len(lit) > api.MaxText {
		return "", api.ErrLong, 0
	}
	chars := charsOf(lit)
	if chars[0].r != '"' {
		return "", api.ErrQuote, 0
	}
	said, errno, at := pieces(chars, 1)
	switch {
	case errno != api.OK:
		return "", errno, chars[at].at
	case chars[at].r != ended:
		return "", api.ErrQuote, chars[at].at
	case len(said) > api.MaxString:
		return "", api.ErrString, 0
	}
	return string(said), api.OK, 0
}

// pieces reads a quoted text from its first piece on: what it says, and the character behind its end; behind an error: the character where it is.
func pieces(chars []char, now int) ([]byte, api.Errno, int) {
	var said []byte

piece:
	switch r := chars[now].r; {
	case r == '"':
		return said, api.OK, now + 1
	case r == '\\':
		goto escape
	case r == ended:
		return nil, api.ErrQuote, now
	case barred(r):
		return nil, api.ErrRune, now
	}
	said = utf8.AppendRune(said, chars[now].r)
	now++
	goto piece

escape:
	if says, n := escapeAt(chars[now:]); n > 0 {
		said = append(said, says...)
		now += n
		goto piece
	}
	return nil, api.ErrEscape, now
}

// escapeAt: what the escape at the beginning of chars says, and how many characters it has; 0 if there is no such escape.
func escapeAt(chars []char) ([]byte, int) {
	switch letter := chars[1].r; letter {
	case 'x':
		if v, n := hexAt(chars[2:], 2); n == 2 {
			return []byte{byte(v)}, n + 2
		}
	case 'u':
		if chars[2].r != '{' {
			break
		}
		if v, n := hexAt(chars[3:], 6); n > 0 && chars[3+n].r == '}' && utf8.ValidRune(v) {
			return utf8.AppendRune(nil, v), n + 4
		}
	default:
		for _, s := range shorts {
			if s.letter == letter {
				return []byte{byte(s.says)}, 2
			}
		}
	}
	return nil, 0
}

// hexAt: the number that the hexadecimal digits at the beginning of chars tell, and how many they are; no more than most are read.
func hexAt(chars []char, most int) (rune, int) {
	var v rune
	n := 0
	for n < most && hexValue(chars[n].r) >= 0 {
		v = v<<4 | hexValue(chars[n].r)
		n++
	}
	return v, n
}

// hexValue: the value of a hexadecimal digit, below 0 if the character is none.
func hexValue(r rune) rune {
	switch {
	case '0' <= r && r <= '9':
		return r - '0'
	case 'a' <= r && r <= 'f':
		return r - 'a' + 10
	case 'A' <= r && r <= 'F':
		return r - 'A' + 10
	}
	return -1
}
