package scan_test

// A second telling of chapter 3, line by line and by regular expressions, to hold the machine against.

import (
	"bytes"
	"encoding/hex"
	"math/big"
	"regexp"
	"slices"
	"strconv"
	"strings"
	"unicode/utf8"

	"reach/api"
)

var (
	wordRun    = regexp.MustCompile(`^[A-Za-z_][A-Za-z_0-9]*`)
	portRun    = regexp.MustCompile(`^[A-Za-z_][A-Za-z_0-9]*\.[A-Za-z_][A-Za-z_0-9]*`)
	numberRun  = regexp.MustCompile(`^[0-9]([A-Za-z_0-9]|\.[0-9])*`)
	patternRun = regexp.MustCompile(`^%[A-Za-z_0-9]*`)
	signRun    = regexp.MustCompile(`^(!=|<=|>=|\.\.|->|[()!=<>&|,:/])`)

	longWord  = regexp.MustCompile(`[A-Za-z_0-9]{25}`)
	pattern   = regexp.MustCompile(`^%[01x]{1,32}$`)
	decimal   = regexp.MustCompile(`^(0|[1-9][0-9]*)$`)
	sixteens  = regexp.MustCompile(`^0x[0-9a-fA-F]{1,8}$`)
	twos      = regexp.MustCompile(`^0b[01]{1,32}$`)
	dotted    = regexp.MustCompile(`^(0|[1-9][0-9]{0,2})\.(0|[1-9][0-9]{0,2})\.(0|[1-9][0-9]{0,2})\.(0|[1-9][0-9]{0,2})$`)
	plain     = regexp.MustCompile(`^[^\x00-\x1f"\\\x7f]`)
	shortOne  = regexp.MustCompile(`^\\["\\nrt]`)
	byteOne   = regexp.MustCompile(`^\\x([0-9a-fA-F]{2})`)
	numberOne = regexp.MustCompile(`^\\u\{([0-9a-fA-F]{1,6})\}`)
)

// tellScan: what Scan is to answer.
func tellScan(text string) ([]api.Token, api.Errno, int, int) {
	if len(text) > 16384 {
		return nil, api.ErrLong, 0, 0
	}
	var tokens []api.Token
	for n, line := range strings.Split(text, "\n") {
		had := len(tokens)
		for at := 0; ; {
			at = len(line) - len(strings.TrimLeft(line[at:], " \t\r"))
			if at == len(line) || line[at] == '#' {
				break
			}
			kind, size, e, fault := tellToken(line[at:])
			if e != api.OK {
				return nil, e, n + 1, utf8.RuneCountInString(line[:at+fault]) + 1
			}
			tokens = append(tokens, api.Token{Kind: kind, Text: line[at : at+size], Line: n + 1, Col: utf8.RuneCountInString(line[:at]) + 1})
			at += size
		}
		if len(tokens) > had {
			tokens = append(tokens, api.Token{Kind: 1, Text: "\n", Line: n + 1, Col: utf8.RuneCountInString(line) + 1})
		}
	}
	return tokens, api.OK, 0, 0
}

// tellToken: the kind and the bytes of the token with which a rest of a line begins; or an error, and how many bytes ahead of it.
func tellToken(rest string) (kind, size int, e api.Errno, fault int) {
	if run := portRun.FindString(rest); run != "" {
		return 3, len(run), errorIf(longWord.MatchString(run), api.ErrName), 0
	}
	if run := wordRun.FindString(rest); run != "" {
		return 2, len(run), errorIf(longWord.MatchString(run), api.ErrName), 0
	}
	if run := numberRun.FindString(rest); run != "" {
		_, e := tellValue(run)
		return 4, len(run), e, 0
	}
	if run := patternRun.FindString(rest); run != "" {
		return 5, len(run), errorIf(!pattern.MatchString(run), api.ErrDigits), 0
	}
	if rest[0] == '"' {
		said, e, at := tellPieces(rest)
		if e == api.OK && len(said) > 256 {
			return 0, 0, api.ErrString, 0
		}
		return 6, at, e, at
	}
	run := signRun.FindString(rest)
	return 7, len(run), errorIf(run == "", api.ErrByte), 0
}

func errorIf(wrong bool, e api.Errno) api.Errno {
	if wrong {
		return e
	}
	return api.OK
}

// tellPieces: what a text says that begins with a quoted one, and how many bytes that one has; or an error, and how many bytes ahead of it.
func tellPieces(lit string) (string, api.Errno, int) {
	said, at := "", 1
	for {
		rest := lit[at:]
		r, size := utf8.DecodeRuneInString(rest)
		switch {
		case rest == "":
			return "", api.ErrQuote, at
		case rest[0] == '"':
			return said, api.OK, at + 1
		case rest[0] == '\\':
			says, n := tellEscape(rest)
			if n == 0 {
				return "", api.ErrEscape, at
			}
			said += says
			at += n
		case !plain.MatchString(rest) || r == utf8.RuneError && size == 1:
			return "", api.ErrRune, at
		default:
			said += rest[:size]
			at += size
		}
	}
}

func tellEscape(rest string) (string, int) {
	if run := shortOne.FindString(rest); run != "" {
		says, _ := strconv.Unquote(`"` + run + `"`)
		return says, 2
	}
	if run := byteOne.FindStringSubmatch(rest); run != nil {
		says, _ := hex.DecodeString(run[1])
		return string(says), 4
	}
	if run := numberOne.FindStringSubmatch(rest); run != nil {
		v, _ := strconv.ParseInt(run[1], 16, 64)
		if v < 0xd800 || 0xe000 <= v && v <= 0x10ffff {
			return string(rune(v)), len(run[0])
		}
	}
	return "", 0
}

// tellUnquote: what Unquote is to answer.
func tellUnquote(lit string) (string, api.Errno, int) {
	if len(lit) > 16384 {
		return "", api.ErrLong, 0
	}
	if !strings.HasPrefix(lit, `"`) {
		return "", api.ErrQuote, 0
	}
	said, e, at := tellPieces(lit)
	switch {
	case e != api.OK:
		return "", e, at
	case at < len(lit):
		return "", api.ErrQuote, at
	case len(said) > 256:
		return "", api.ErrString, 0
	}
	return said, api.OK, 0
}

// tellQuote: what Quote is to answer for at most 256 bytes.
func tellQuote(s string) string {
	var out bytes.Buffer
	out.WriteByte('"')
	for len(s) > 0 {
		r, size := utf8.DecodeRuneInString(s)
		switch {
		case r == utf8.RuneError && size == 1, r < 32 && !strings.ContainsRune("\n\r\t", r), r == 127:
			out.WriteString(`\x` + hex.EncodeToString([]byte(s[:1])))
		case r == '"' || r == '\\':
			out.WriteString(`\` + s[:1])
		case r == '\n':
			out.WriteString(`\n`)
		case r == '\r':
			out.WriteString(`\r`)
		case r == '\t':
			out.WriteString(`\t`)
		case r >= 0x80 && r <= 0x9f || r >= 0x200b && r <= 0x200f || r >= 0x2028 && r <= 0x202e || r == 0xfeff:
			out.WriteString(`\u{` + big.NewInt(int64(r)).Text(16) + "}")
		default:
			out.WriteString(s[:size])
		}
		s = s[size:]
	}
	out.WriteByte('"')
	return out.String()
}

// tellValue: what Value is to answer for at most 16384 bytes.
func tellValue(lit string) (int, api.Errno) {
	v := new(big.Int)
	switch {
	case decimal.MatchString(lit):
		v.SetString(lit, 10)
	case sixteens.MatchString(lit):
		v.SetString(lit[2:], 16)
	case twos.MatchString(lit):
		v.SetString(lit[2:], 2)
	case dotted.MatchString(lit):
		for _, part := range dotted.FindStringSubmatch(lit)[1:] {
			n, _ := strconv.ParseInt(part, 10, 64)
			if n > 255 {
				return 0, api.ErrNumber
			}
			v.Add(v.Mul(v, big.NewInt(256)), big.NewInt(n))
		}
	default:
		return 0, api.ErrNumber
	}
	if v.Cmp(big.NewInt(4294967295)) > 0 {
		return 0, api.ErrNumber
	}
	return int(v.Int64()), api.OK
}

// tellPrint: what Print is to answer.
func tellPrint(tokens []api.Token) (string, api.Errno) {
	if len(tokens) > 16384 {
		return "", api.ErrLong
	}
	for i, t := range tokens {
		if !tellWhole(t) || t.Kind == 1 && (i == 0 || tokens[i-1].Kind == 1) {
			return "", api.ErrToken
		}
	}
	if n := len(tokens); n > 0 && tokens[n-1].Kind != 1 {
		return "", api.ErrToken
	}
	var out strings.Builder
	for i, t := range tokens {
		if i > 0 && tellSpace(tokens[i-1], t) {
			out.WriteString(" ")
		}
		out.WriteString(t.Text)
	}
	if out.Len() > 16384 {
		return "", api.ErrLong
	}
	return out.String(), api.OK
}

// tellWhole: whether a token's Text is wholly one token of its Kind.
func tellWhole(t api.Token) bool {
	if t.Kind == 1 {
		return t.Text == "\n"
	}
	if t.Text == "" || strings.ContainsAny(t.Text[:1], "# \t\r\n") || strings.Contains(t.Text, "\n") {
		return false
	}
	kind, size, e, _ := tellToken(t.Text)
	return e == api.OK && kind == t.Kind && size == len(t.Text)
}

func tellSpace(a, b api.Token) bool {
	switch {
	case a.Kind == 1 || b.Kind == 1:
		return false
	case a.Kind == 7 && slices.Contains([]string{"(", "/", "..", ":"}, a.Text):
		return false
	case b.Kind == 7 && slices.Contains([]string{")", ",", "/", "..", ":"}, b.Text):
		return false
	case a.Kind == 7 && a.Text == "!":
		return b.Kind != 2 && !(b.Kind == 7 && (b.Text == "(" || b.Text == "!"))
	}
	return true
}

// source gives numbers that look drawn by lot, the same in every run.
type source uint64

func (s *source) below(n int) int {
	*s = *s*6364136223846793005 + 1442695040888963407
	return int(uint64(*s)>>33) % n
}

// mix: at most most of the pieces, one behind the other.
func (s *source) mix(pieces []string, most int) string {
	var out strings.Builder
	for range s.below(most + 1) {
		out.WriteString(pieces[s.below(len(pieces))])
	}
	return out.String()
}

// eachText calls look with all texts of at most most of the pieces.
func eachText(pieces []string, most int, look func(text string)) {
	var grow func(text string, left int)
	grow = func(text string, left int) {
		look(text)
		if left > 0 {
			for _, p := range pieces {
				grow(text+p, left-1)
			}
		}
	}
	grow("", most)
}
