package conf_test

// Networks, lines and texts by a source of mixed numbers.

import (
	"strings"

	"reach/api"
	"reach/expr"
)

type source uint64

func (s *source) below(n int) int {
	*s = *s*6364136223846793005 + 1442695040888963407
	return int(uint64(*s) >> 33 % uint64(n))
}

func (s *source) oneOf(words ...string) string { return words[s.below(len(words))] }

// texts: as many as it comes, none as often as not.
func (s *source) texts(most int, one func() string) []string {
	return some(s, most, one)
}

func some[T any](s *source, most int, one func() T) []T {
	var list []T
	for range s.below(2) * s.below(most+1) {
		list = append(list, one())
	}
	return list
}

func (s *source) name() string {
	return s.oneOf("a", "b", "c", "R1", "R2", "dst", "proto", "_", "In", "too", "x"+strings.Repeat("Y9", 11)+"_")
}

func (s *source) port() string { return s.name() + "." + s.name() }

func (s *source) number() int {
	return []int{0, 1, 2, 5, 30, 65535, 65536, 167772160, 4294967295}[s.below(9)]
}

// asNumber: a number as a text may have it.
func (s *source) asNumber() string {
	return s.oneOf("0", "1", "5", "0x1e", "0b101", "65535", "65536", "70000", "10.0.0.0", "255.255.255.255", "4294967295", "0xFFFFFFFF")
}

func (s *source) asText() string {
	return s.oneOf(`"lab"`, `""`, `"# \"é\"\n"`, `"\xff\u{200b}"`, `"`+strings.Repeat("t", 256)+`"`)
}

// asMatch: an expression as a text may have it; a field may have the name of a keyword here.
func (s *source) asMatch() string {
	return s.oneOf("any", "none", "a=1", "dst = 10.0.0.0/8 & ! proto = 6", "!(a<5|b!=3..4)&(c=%0x1)", "to = 1 | match != 7", "((any))", "! ! none", "drop >= 70000")
}

func (s *source) match() []api.Node {
	nodes, _, _ := expr.Parse(s.asMatch())
	return nodes
}

func (s *source) prefix() api.Prefix {
	return api.Prefix{Value: s.number(), Len: s.number(), To: s.name()}
}

func (s *source) rule() api.Rule {
	return api.Rule{
		Priority: s.number(), From: s.texts(3, s.name), Match: s.match(), To: s.texts(3, s.name),
		Sets: some(s, 3, func() api.Set { return api.Set{Field: s.name(), Value: s.number()} }),
	}
}

func (s *source) box() api.Box {
	return api.Box{
		Name: s.name(), Ins: s.texts(4, s.name), Outs: s.texts(4, s.name),
		Guards: some(s, 3, func() api.Line { return api.Line{Port: s.name(), Permit: s.below(2) == 0, Match: s.match()} }),
		Rules:  some(s, 4, s.rule), Owns: some(s, 3, s.prefix), Routes: some(s, 3, s.prefix),
	}
}

// network: one that a text gives.
func (s *source) network() api.Config {
	c := api.Config{
		Title:  s.oneOf("", "lab", "\xff\n\u200b\"", strings.Repeat("é", 128)),
		Fields: some(s, 4, func() api.Field { return api.Field{Name: s.name(), Bits: s.number()} }),
		Boxes:  some(s, 4, s.box),
		Links:  some(s, 3, func() api.Link { return api.Link{From: s.port(), To: s.port(), Cost: s.number()} }),
		Slices: some(s, 3, func() api.Slice {
			return api.Slice{Name: s.name(), Ports: s.texts(3, s.port), Where: s.match()}
		}),
	}
	if s.below(2) == 0 {
		c.Routing, c.Slim = s.name(), s.below(2) == 0
	}
	return c
}

// words: parts, one at least, with that between each two.
func (s *source) words(most int, between string, one func() string) string {
	list := []string{one()}
	for range s.below(most) {
		list = append(list, one())
	}
	return strings.Join(list, between)
}

func (s *source) maybe(text string) string {
	if s.below(2) == 0 {
		return ""
	}
	return text
}

// line: one of that keyword, with a blank between each two tokens but within expressions.
func (s *source) line(word string) string {
	switch word {
	case "network":
		return "network " + s.asText()
	case "header":
		return "header " + s.words(3, " ", func() string { return s.name() + " : " + s.asNumber() })
	case "routing":
		return "routing " + s.name() + s.maybe(" slim")
	case "box":
		return "box " + s.name()
	case "in", "out":
		return word + " " + s.words(3, " ", s.name)
	case "guard":
		return "guard " + s.name() + " " + s.oneOf("permit", "deny") + " " + s.asMatch()
	case "rule":
		sets := func() string { return s.name() + " = " + s.asNumber() }
		return "rule " + s.asNumber() + s.maybe(" from "+s.words(3, " ", s.name)) + " match " + s.asMatch() + s.maybe(" set "+s.words(3, " , ", sets)) + s.oneOf(" drop", " to "+s.words(3, " , ", s.name))
	case "own", "route":
		return word + " " + s.asNumber() + " / " + s.asNumber() + " to " + s.name()
	case "link":
		return "link " + s.port() + " -> " + s.port() + s.maybe(" cost "+s.asNumber())
	}
	return "slice " + s.name() + " " + s.maybe(s.words(3, " ", s.port)+" ") + "where " + s.asMatch()
}

func (s *source) bodyLine() string { return s.line(s.oneOf(strings.Fields(bodyWords)...)) }

// edit: a line that Edit may take.
func (s *source) edit() string {
	if s.below(2) == 0 {
		return s.oneOf(s.line(s.oneOf(strings.Fields(freeWords)...)), "at "+s.name()+" "+s.bodyLine())
	}
	prefix := s.asNumber() + " / " + s.asNumber()
	return "no " + s.oneOf("box "+s.name(), "link "+s.port(), "slice "+s.name(), "at "+s.name()+" "+s.oneOf("in "+s.name(), "out "+s.name(), "guard "+s.name(), "rule "+s.asNumber(), "own "+prefix, "route "+prefix))
}

// stray: a token out of place.
func (s *source) stray() string {
	all := append(strings.Fields(reservedWords), strings.Fields(`( ) ! = != < <= > >= & | , : / .. -> %01x "t" "in" a R1 R1.a R1.in any.b 7 10.0.0.0`)...)
	return all[s.below(len(all))]
}

// broken: a line with one token more, less, changed, or given another place; as often as not no line of the grammar.
func (s *source) broken(line string) string {
	words := strings.Fields(line)
	at, to := s.below(len(words)), s.below(len(words))
	switch s.below(5) {
	case 0:
		words[at] = s.stray()
	case 1:
		words[at] = ""
	case 2:
		words[at] += " " + s.stray()
	case 3:
		words[at], words[to] = words[to], words[at]
	case 4:
		words[at] += "\n"
	}
	return strings.Join(words, " ")
}

// text: lines, in an order that may be right; some of them broken, if asked for.
func (s *source) text(breaks bool) string {
	var lines []string
	for _, word := range strings.Fields(headWords) {
		if s.below(2) == 0 {
			lines = append(lines, s.line(word))
		}
	}
	for range s.below(3) {
		lines = append(lines, s.line(s.oneOf("box", "box", "box", "link", "slice")))
		for range s.below(5) {
			if strings.HasPrefix(lines[len(lines)-1], "link") || strings.HasPrefix(lines[len(lines)-1], "slice") {
				break
			}
			lines = append(lines, s.bodyLine())
		}
	}
	for n := range lines {
		if breaks && s.below(6) == 0 {
			lines[n] = s.broken(lines[n])
		}
		lines[n] = s.oneOf("", "", "  ", "\t\r", "\n # x\n") + lines[n] + s.oneOf("", "", " # no $ here", "\r", "\n\n")
	}
	if breaks && len(lines) > 1 && s.below(4) == 0 {
		from, to := s.below(len(lines)), s.below(len(lines))
		lines[from], lines[to] = lines[to], lines[from]
	}
	return strings.Join(lines, "\n")
}
