package trail_test

// A second telling of P14.1 to P14.3, on the pieces of a text: where it is refused, which brackets are left out one by one, and what it means as a regular expression over one character a name.

import (
	"regexp"
	"slices"
	"strings"
	"testing"

	"reach/api"
)

var wholeName = regexp.MustCompile(`^[A-Za-z_][A-Za-z0-9_]*(\.[A-Za-z_][A-Za-z0-9_]*)?`)

func isSuffix(piece string) bool { return strings.Contains("*+?", piece) }

// refusedAt: the place of the first byte that is refused, and -1, if there is none.
func refusedAt(text string) int {
	items, atoms := 0, []bool{false} // by bracket: whether an atom stands ahead in the sequence
	for at := 0; at < len(text); {
		rest, inner := text[at:], len(atoms)-1
		name := wholeName.FindString(rest)
		if name != "" || strings.Contains(".!*+?|", rest[:1]) {
			if items == api.MaxItems {
				return at
			}
			items++
		}
		switch rest[0] {
		case ' ':
		case '(':
			if inner == api.MaxDepth {
				return at
			}
			atoms = append(atoms, false)
		case ')':
			if inner == 0 {
				return at
			}
			atoms = atoms[:inner]
			atoms[inner-1] = true
		case '|':
			atoms[inner] = false
		case '*', '+', '?':
			if !atoms[inner] {
				return at
			}
		case '.':
			atoms[inner] = true
		case '!':
			at++
			name = wholeName.FindString(text[at:])
			fallthrough
		default:
			runs := strings.Split(name, ".")
			if name == "" || len(runs[0]) > api.MaxName || len(runs[len(runs)-1]) > api.MaxName {
				return at
			}
			atoms[inner] = true
			at += len(name) - 1
		}
		at++
	}
	if len(atoms) > 1 {
		return len(text)
	}
	return -1
}

// piecesOf: those of a text that is not refused, a name with its denial.
func piecesOf(text string) []string {
	var list []string
	for text = strings.Trim(text, " "); text != ""; text = strings.Trim(text, " ") {
		denied := len(text) - len(strings.TrimPrefix(text, "!"))
		end := max(1, denied+len(wholeName.FindString(text[denied:])))
		list = append(list, text[:end])
		text = text[end:]
	}
	return list
}

// closing: the place of the bracket that ends the one there.
func closing(pieces []string, open int) int {
	depth := 0
	for at, p := range pieces[open:] {
		switch p {
		case "(":
			depth++
		case ")":
			depth--
		}
		if depth == 0 {
			return open + at
		}
	}
	return -1
}

// hasBar: whether a | stands among the pieces, outside of their brackets.
func hasBar(pieces []string) bool {
	for at := 0; at < len(pieces); at++ {
		switch pieces[at] {
		case "|":
			return true
		case "(":
			at = closing(pieces, at)
		}
	}
	return false
}

// isOnePart: whether the pieces are one atom, with suffixes or without.
func isOnePart(pieces []string) bool {
	if len(pieces) == 0 || pieces[0] == "|" {
		return false
	}
	end := 0
	if pieces[0] == "(" {
		end = closing(pieces, 0)
	}
	return !slices.ContainsFunc(pieces[end+1:], func(p string) bool { return !isSuffix(p) })
}

// canGo: whether the bracket there changes nothing of the grouping.
func canGo(pieces []string, open int) bool {
	end := closing(pieces, open)
	inner := pieces[open+1 : end]
	begins := open == 0 || strings.Contains("(|", pieces[open-1])
	ends := end+1 == len(pieces) || strings.Contains(")|", pieces[end+1])
	if end+1 < len(pieces) && isSuffix(pieces[end+1]) {
		return isOnePart(inner)
	}
	return !hasBar(inner) || begins && ends
}

// loosened: the pieces without the brackets that can go, one by one.
func loosened(pieces []string) []string {
	for open := 0; open < len(pieces); open++ {
		if pieces[open] == "(" && canGo(pieces, open) {
			end := closing(pieces, open)
			return loosened(slices.Concat(pieces[:open], pieces[open+1:end], pieces[end+1:]))
		}
	}
	return pieces
}

// told: the text that a pattern tells.
func told(text string) string {
	var line strings.Builder
	before := ""
	write := func(piece string) {
		if before != "" && before != "(" && piece != ")" && !isSuffix(piece) {
			line.WriteString(" ")
		}
		line.WriteString(piece)
		before = piece
	}
	for _, piece := range append(loosened(piecesOf(text)), "") {
		isBar := piece == "|" && (before == "" || before == "(" || before == "|")
		isEnd := before == "|" && (piece == ")" || piece == "")
		if isBar || isEnd {
			write("()")
		}
		if piece != "" {
			write(piece)
		}
	}
	return line.String()
}

// alphabet: a character for each name of a list, so that a list of names is a text.
type alphabet []string

func (a alphabet) char(at int) string { return string(rune(0x4e00 + at)) }

// text: of these names, which must be of the alphabet.
func (a alphabet) text(names []string) string {
	var text strings.Builder
	for _, name := range names {
		text.WriteString(a.char(slices.Index(a, name)))
	}
	return text.String()
}

// leaf: the class of the names that a leaf means.
func (a alphabet) leaf(piece string) string {
	class := ""
	for at, name := range a {
		wanted := strings.TrimPrefix(piece, "!")
		means := name == wanted || wanted == "."
		if box, port, ok := strings.Cut(name, "."); !strings.Contains(wanted, ".") {
			means = ok && box == wanted && len(port) >= 0
		}
		if means == (wanted == piece) {
			class += a.char(at)
		}
	}
	if class == "" {
		return `[^\x00-\x{10FFFF}]`
	}
	return "[" + class + "]"
}

// expression: the pattern of a text as a regular expression over the alphabet.
func (a alphabet) expression(t *testing.T, text string) *regexp.Regexp {
	t.Helper()
	var parts []string // brackets that are open, bars and finished parts
	for _, piece := range piecesOf(text) {
		last := len(parts) - 1
		switch piece {
		case "(", "|":
			parts = append(parts, piece)
		case ")":
			for parts[last] != "(" {
				last--
			}
			parts = append(parts[:last], "(?:"+strings.Join(parts[last+1:], "")+")")
		case "*", "+", "?":
			parts[last] = "(?:" + parts[last] + piece + ")"
		default:
			parts = append(parts, a.leaf(piece))
		}
	}
	e, err := regexp.Compile("^(?:" + strings.Join(parts, "") + ")$")
	if err != nil {
		t.Fatalf("%q: %v", text, err)
	}
	return e
}

func (a alphabet) means(e *regexp.Regexp, names []string) bool { return e.MatchString(a.text(names)) }

// texts: all of up to so many of these pieces.
func texts(most int, pieces []string, look func(text string)) {
	var grow func(text string, left int)
	grow = func(text string, left int) {
		look(text)
		if left == 0 {
			return
		}
		for _, piece := range pieces {
			grow(text+piece, left-1)
		}
	}
	grow("", most)
}

// The second telling by itself, where the document says what is to come.
func TestTheSecondTelling(t *testing.T) {
	for text, want := range map[string]string{
		"((a))(b c)|(d|())*": "a b c | (d | ())*", "(a*)+": "a*+", "(a b)?": "(a b)?", "()": "", "R1.a.*": "R1.a .*", "R1.*": "R1 .*", "|": "() | ()", "()*": "()*", "(())*": "()*", "a()b": "a b", "(a|b)()": "a | b", "!a.b c": "!a.b c",
	} {
		check(t, "the second telling: "+text, told(text), want)
	}
	a := alphabet{"a.x", "a.", "b.x", "ab.c", "a"}
	check(t, "the second telling", a.leaf("a"), "["+a.char(0)+a.char(1)+"]")
	check(t, "the second telling", a.leaf("!a"), "["+a.char(2)+a.char(3)+a.char(4)+"]")
	check(t, "the second telling", a.leaf("b.x"), "["+a.char(2)+"]")
	check(t, "the second telling", a.leaf("b.y"), `[^\x00-\x{10FFFF}]`)
}
