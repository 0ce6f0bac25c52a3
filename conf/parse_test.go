package conf_test

import (
	"strings"
	"testing"

	"reach/api"
	"reach/conf"
)

// checkParse holds Parse against its second telling.
func checkParse(t *testing.T, text string) (api.Config, api.Errno) {
	t.Helper()
	c, errno, line := conf.Parse(text)
	want, wantErrno, wantLine := tellParse(text)
	if !equal(c, want) || errno != wantErrno || line != wantLine {
		t.Fatalf("P6.1: Parse(%q) = %+v, %d, %d; want %+v, %d, %d", text, c, errno, line, want, wantErrno, wantLine)
	}
	return c, errno
}

// eachLine calls look with every line of so many of these words.
func eachLine(words []string, size int, look func(line string)) {
	parts := make([]string, size)
	var fill func(place int)
	fill = func(place int) {
		if place == size {
			look(strings.Join(parts, " "))
			return
		}
		for _, word := range words {
			parts[place] = word
			fill(place + 1)
		}
	}
	fill(0)
}

func TestParseOfAllShortLines(t *testing.T) {
	words := append(strings.Fields(reservedWords), "a", "R1.a", "R1.to", "5", `"t"`, `"in"`, "%01", ":", "=", "/", ",", "->", "!", "\n")
	for size := range 3 {
		eachLine(words, size, func(line string) {
			checkParse(t, line)
			checkParse(t, "box R1\n"+line)
			checkParse(t, "box R1\nlink a.b -> c.d\n"+line)
			checkParse(t, "header a:5\n\n"+line+"\n$")
		})
	}
	for _, word := range strings.Fields(textWords) {
		eachLine(words, 2, func(line string) { checkParse(t, "box R1\n"+word+" "+line) })
	}
}

// Whatever line goes on behind the beginning of a right one.
func TestParseOfAllEndsOfRightLines(t *testing.T) {
	words := append(strings.Fields(reservedWords), "a", "R1.a", "no.a", "5", `"t"`, "%01", ":", "=", "/", ",", "->", "&", "\n")
	for _, line := range []string{
		`network "t"`, "header a : 5 b : 7", "routing a slim", "box a", "in a b", "out a b", "guard a permit any", "guard a deny a = 1 & none",
		"rule 5 from a b match any set a = 1 , b = 2 to a , b", "rule 5 match none drop", "own 5 / 7 to a", "route 5 / 7 to a", "link R1.a -> R1.b cost 5", "slice a R1.a R1.b where any",
	} {
		parts := strings.Fields(line)
		for at := range parts {
			begun := strings.Join(parts[:at+1], " ")
			for _, word := range words {
				checkParse(t, "box R1\n"+begun+" "+word)
				checkParse(t, begun+" "+word+" "+strings.Join(parts[at+1:], " "))
				checkParse(t, "box R1\n"+strings.Join(parts[:at], " ")+" "+word+" "+strings.Join(parts[at+1:], " "))
				checkParse(t, "box R1\n"+begun+" "+word+" "+strings.Join(parts[at+1:], " "))
			}
		}
	}
}

func TestParseOfMixedTexts(t *testing.T) {
	s := source(6)
	right, wrong := 0, map[api.Errno]int{}
	for range 4000 {
		if _, errno := checkParse(t, s.text(false)); errno == api.OK {
			right++
		}
		_, errno := checkParse(t, s.text(true))
		wrong[errno]++
	}
	if right != 4000 || wrong[api.OK] < 500 || wrong[api.ErrSyntax] < 500 || wrong[api.ErrOrder] < 100 || wrong[api.ErrKeyword] < 100 {
		t.Errorf("P6.1: of 4000 right texts %d are read; of others: %v", right, wrong)
	}
}

// Where each line may stand behind each two others.
func TestParseOfLinesInEveryOrder(t *testing.T) {
	lines := map[string]string{
		"network": `network "t"`, "header": "header a:5", "routing": "routing a", "box": "box B", "in": "in a", "out": "out b", "guard": "guard a deny any",
		"rule": "rule 5 match any drop", "own": "own 1/2 to b", "route": "route 1/2 to b", "link": "link B.b -> B.a", "slice": "slice s where any",
	}
	eachLine(strings.Fields(textWords), 3, func(words string) {
		w := strings.Fields(words)
		for _, ahead := range []string{"", "box A\n", "header x:1\nbox A\nin z\n"} {
			checkParse(t, ahead+lines[w[0]]+"\n"+lines[w[1]]+"\n"+lines[w[2]])
			checkParse(t, ahead+lines[w[0]]+"\n"+lines[w[1]]+"\n"+w[2]) // the order comes ahead of the rest of the line
		}
	})
}

// An error of the scanner comes ahead of all others, wherever it stands, and with its own line.
func TestParseTellsTheScannersErrorFirst(t *testing.T) {
	for _, c := range []struct {
		text  string
		errno api.Errno
		line  int
	}{
		{"foo\nbox R1\n $", api.ErrByte, 3},
		{"in a\n\n\nbox 007", api.ErrNumber, 4},
		{"in\nbox " + strings.Repeat("a", 25), api.ErrName, 2},
		{"box in\nnetwork \"\\q\"", api.ErrEscape, 2},
		{"box in\nnetwork \"x", api.ErrQuote, 2},
		{"box in\nnetwork \"\x01\"", api.ErrRune, 2},
		{"box in\nnetwork \"" + strings.Repeat("t", 257) + "\"", api.ErrString, 2},
		{"box in\nguard a deny b = %012", api.ErrDigits, 2},
		{strings.Repeat("$", 16385), api.ErrLong, 0},
		{"box R1\n" + strings.Repeat(" ", 16384-7), api.OK, 0},
		{"box R1\n" + strings.Repeat(" ", 16384-6), api.ErrLong, 0},
		{"box\n" + strings.Repeat("\n", 16380), api.ErrSyntax, 1},
	} {
		if d, errno, line := conf.Parse(c.text); errno != c.errno || line != c.line || errno != api.OK && !equal(d, api.Config{}) {
			t.Errorf("P6.1: Parse(%.40q) = %+v, %d, %d; want %d, %d", c.text, d, errno, line, c.errno, c.line)
		}
	}
}

// Within an expression the error is the expression's own, from left to right.
func TestParseTellsTheExpressionsError(t *testing.T) {
	deep, many := strings.Repeat("!", 33)+"any", "any"+strings.Repeat("&any", 32)
	for _, c := range []struct {
		line  string
		errno api.Errno
	}{
		{"guard a deny " + deep, api.ErrDeep}, {"guard a deny " + many, api.ErrNodes}, {"guard a deny " + deep + " to", api.ErrDeep},
		{"guard to deny " + deep, api.ErrSyntax}, {"guard a " + deep, api.ErrSyntax}, {"guard a deny & " + deep, api.ErrSyntax},
		{"rule 5 match " + deep + " drop", api.ErrDeep}, {"rule 5 match " + many + " drop", api.ErrNodes}, {"rule 5 match " + many, api.ErrNodes},
		{"rule 5 from match " + many + " drop", api.ErrSyntax}, {"rule match " + deep + " drop", api.ErrSyntax},
		{"slice s where " + deep, api.ErrDeep}, {"slice s A.a where " + many, api.ErrNodes}, {"slice s A.a " + many, api.ErrSyntax},
		{"guard a deny any" + strings.Repeat("&any", 31), api.OK}, {"guard a deny " + deep[1:], api.OK},
	} {
		if _, errno, line := conf.Parse("box R1\nin x\n" + c.line); errno != c.errno || errno != api.OK && line != 3 {
			t.Errorf("P6.1: a line %.40q: %d, %d; want %d, 3", c.line, errno, line, c.errno)
		}
		checkParse(t, "box R1\nin x\n"+c.line)
	}
}

func TestParseOfATextWithoutDeclarations(t *testing.T) {
	for _, text := range []string{"", "\n", " \t\r\n\n", "# box R1", "# \xff\n#"} {
		if c, errno, line := conf.Parse(text); !equal(c, api.Config{}) || errno != api.OK || line != 0 {
			t.Errorf("P6.1: Parse(%q) = %+v, %d, %d", text, c, errno, line)
		}
	}
}

// No reserved word names a thing; a word that only looks like one does.
func TestParseOfReservedWords(t *testing.T) {
	for _, c := range []struct{ ahead, behind string }{
		{"header ", ":5"}, {"routing ", ""}, {"box ", ""}, {"box B\nin a ", ""}, {"box B\nout ", ""}, {"box B\nguard ", " permit any"}, {"box B\nrule 5 from ", " match any drop"},
		{"box B\nrule 5 match any set ", " = 1 drop"}, {"box B\nrule 5 match any to a, ", ""}, {"box B\nown 1/2 to ", ""}, {"box B\nroute 1/2 to ", ""},
		{"link ", ".a -> B.b"}, {"link B.", " -> B.b"}, {"link B.a -> ", ".b"}, {"link B.a -> B.", ""}, {"slice ", " where any"}, {"slice s ", ".a where any"}, {"slice s B.a B.", " where any"},
	} {
		for _, word := range strings.Fields(reservedWords) {
			if _, errno, _ := conf.Parse(c.ahead + word + c.behind); errno != api.ErrSyntax {
				t.Errorf("P6.1: %q as a name in %q: %d", word, c.ahead+c.behind, errno)
			}
			if _, errno, _ := conf.Parse(c.ahead + word + "x" + c.behind); errno != api.OK {
				t.Errorf("P6.1: %q as a name in %q: %d", word+"x", c.ahead+c.behind, errno)
			}
		}
	}
}
