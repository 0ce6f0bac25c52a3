package expr_test

// A second telling of chapter 5, to hold the package against: reading by piles of signs, without recursion; everything else by one way along the list.

import (
	"fmt"
	"regexp"
	"slices"
	"strconv"
	"strings"

	"reach/api"
	"reach/field"
	"reach/space"
	"reach/tern"
)

var (
	anyNode  = api.Node{Kind: api.NodeAny}
	noneNode = api.Node{Kind: api.NodeNone}
	notNode  = api.Node{Kind: api.NodeNot}
	andNode  = api.Node{Kind: api.NodeAnd}
	orNode   = api.Node{Kind: api.NodeOr}

	layoutF = []api.Field{{Name: "dst", Bits: 8}, {Name: "proto", Bits: 4}}

	nameForm    = regexp.MustCompile(`^[A-Za-z_][A-Za-z_0-9]{0,23}$`)
	patternForm = regexp.MustCompile(`^%[01x]{1,32}$`)
	decimalForm = regexp.MustCompile(`^(0|[1-9][0-9]{0,9})$`)
	hexForm     = regexp.MustCompile(`^0x[0-9a-fA-F]{1,8}$`)
	twosForm    = regexp.MustCompile(`^0b[01]{1,32}$`)
	quadForm    = regexp.MustCompile(`^(0|[1-9][0-9]{0,2})\.(0|[1-9][0-9]{0,2})\.(0|[1-9][0-9]{0,2})\.(0|[1-9][0-9]{0,2})$`)
)

var signOps = map[string]int{"=": 1, "!=": 2, "<": 3, "<=": 4, ">": 5, ">=": 6}

// number: a test of a number; span, prefix and pattern likewise.
func number(name string, op, v int) api.Node {
	return api.Node{Kind: api.NodeTest, Test: api.Test{Field: name, Op: op, Form: api.FormNumber, Lo: v}}
}

func span(name string, op, lo, hi int) api.Node {
	return api.Node{Kind: api.NodeTest, Test: api.Test{Field: name, Op: op, Form: api.FormRange, Lo: lo, Hi: hi}}
}

func prefix(name string, op, v, size int) api.Node {
	return api.Node{Kind: api.NodeTest, Test: api.Test{Field: name, Op: op, Form: api.FormPrefix, Lo: v, Len: size}}
}

func pattern(name string, op int, digits string) api.Node {
	return api.Node{Kind: api.NodeTest, Test: api.Test{Field: name, Op: op, Form: api.FormPattern, Pattern: digits}}
}

func list(nodes ...api.Node) []api.Node { return nodes }

// tellNumber: the number that a token is.
func tellNumber(t api.Token) (int, bool) {
	v := uint64(0)
	switch {
	case t.Kind != api.TokNumber:
		return 0, false
	case decimalForm.MatchString(t.Text):
		v, _ = strconv.ParseUint(t.Text, 10, 64)
	case hexForm.MatchString(t.Text):
		v, _ = strconv.ParseUint(t.Text[2:], 16, 64)
	case twosForm.MatchString(t.Text):
		v, _ = strconv.ParseUint(t.Text[2:], 2, 64)
	case quadForm.MatchString(t.Text):
		for _, digits := range quadForm.FindStringSubmatch(t.Text)[1:] {
			part, _ := strconv.ParseUint(digits, 10, 64)
			if part > 255 {
				return 0, false
			}
			v = v*256 + part
		}
	default:
		return 0, false
	}
	return int(v), v <= 4294967295
}

// What a token may be next.
const (
	wantFactor = iota
	wantOp
	wantValue
	wantNumber
	wantTail // a / or .. goes on, anything else stands behind the test
	wantLen
	wantHi
	wantSign // behind a factor
)

// teller reads with one pile of signs that wait for what they join.
type teller struct {
	pile  []string
	nodes []api.Node
	made  int
	test  api.Test
	want  int
}

func (m *teller) open() int {
	n := 0
	for _, sign := range m.pile {
		if sign == "(" || sign == "!" {
			n++
		}
	}
	return n
}

// pop hands on the signs on top of the pile as long as they are of those.
func (m *teller) pop(signs string) {
	for len(m.pile) > 0 && strings.Contains(signs, m.pile[len(m.pile)-1]) {
		m.nodes = append(m.nodes, map[string]api.Node{"!": notNode, "&": andNode, "|": orNode}[m.pile[len(m.pile)-1]])
		m.pile = m.pile[:len(m.pile)-1]
	}
}

func (m *teller) push(sign string) api.Errno {
	if (sign == "!" || sign == "(") && m.open() == 32 {
		return api.ErrDeep
	}
	if sign != "(" && m.made == 64 {
		return api.ErrNodes
	}
	if sign != "(" {
		m.made++
	}
	m.pile = append(m.pile, sign)
	m.want = wantFactor
	return api.OK
}

// leaf hands on a factor that is whole, with the denials ahead of it.
func (m *teller) leaf(n api.Node) {
	m.nodes = append(m.nodes, n)
	m.pop("!")
	m.want = wantSign
}

// tellRead: what Read is to answer.
func tellRead(tokens []api.Token, from int) ([]api.Node, int, api.Errno) {
	if from < 0 || from > len(tokens) {
		return nil, 0, api.ErrArg
	}
	m := &teller{}
	for at := from; ; at++ {
		t := api.Token{Kind: api.TokEnd}
		if at < len(tokens) {
			t = tokens[at]
		}
		sign := ""
		if t.Kind == api.TokSign {
			sign = t.Text
		}
		if m.want == wantTail && sign != "/" && sign != ".." {
			m.leaf(api.Node{Kind: api.NodeTest, Test: m.test})
		}
		if m.want == wantSign && sign != "&" && sign != "|" && !slices.Contains(m.pile, "(") {
			m.pop("&|!")
			return m.nodes, at, api.OK
		}
		if e := m.step(t, sign); e != api.OK {
			return nil, at, e
		}
	}
}

func (m *teller) step(t api.Token, sign string) api.Errno {
	v, isNumber := tellNumber(t)
	switch m.want {
	case wantFactor:
		return m.factor(t, sign)
	case wantSign:
		return m.behind(sign)
	case wantOp:
		m.test.Op = signOps[sign]
		m.want = wantNumber
		if m.test.Op == 1 || m.test.Op == 2 {
			m.want = wantValue
		}
		if m.test.Op == 0 {
			return api.ErrSyntax
		}
		return api.OK
	case wantTail:
		m.want = map[string]int{"/": wantLen, "..": wantHi}[sign]
		return api.OK
	}
	if m.want == wantValue && t.Kind == api.TokPattern && patternForm.MatchString(t.Text) {
		m.test.Form, m.test.Pattern = 4, t.Text[1:]
		m.leaf(api.Node{Kind: api.NodeTest, Test: m.test})
		return api.OK
	}
	if !isNumber {
		return api.ErrSyntax
	}
	switch m.want {
	case wantValue:
		m.test.Form, m.test.Lo, m.want = 1, v, wantTail
		return api.OK
	case wantNumber:
		m.test.Form, m.test.Lo = 1, v
	case wantLen:
		m.test.Form, m.test.Len = 2, v
	case wantHi:
		m.test.Form, m.test.Hi = 3, v
	}
	m.leaf(api.Node{Kind: api.NodeTest, Test: m.test})
	return api.OK
}

func (m *teller) factor(t api.Token, sign string) api.Errno {
	if sign == "!" || sign == "(" {
		return m.push(sign)
	}
	if t.Kind != api.TokName || !nameForm.MatchString(t.Text) {
		return api.ErrSyntax
	}
	if m.made == 64 {
		return api.ErrNodes
	}
	m.made++
	switch t.Text {
	case "any":
		m.leaf(anyNode)
	case "none":
		m.leaf(noneNode)
	default:
		m.test, m.want = api.Test{Field: t.Text}, wantOp
	}
	return api.OK
}

func (m *teller) behind(sign string) api.Errno {
	switch sign {
	case "&":
		m.pop("&!")
		return m.push("&")
	case "|":
		m.pop("&|!")
		return m.push("|")
	case ")":
		m.pop("&|!")
		m.pile = m.pile[:len(m.pile)-1]
		m.pop("!")
		return api.OK
	}
	return api.ErrSyntax
}

// tellParse: what Parse is to answer for a text with those tokens.
func tellParse(tokens []api.Token) ([]api.Node, api.Errno, int) {
	if len(tokens) == 0 {
		return nil, api.ErrSyntax, 0
	}
	nodes, at, e := tellRead(tokens, 0)
	switch {
	case e != api.OK:
		return nil, e, tokens[at].Col
	case tokens[at].Kind != api.TokEnd:
		return nil, api.ErrSyntax, tokens[at].Col
	case at+1 < len(tokens):
		return nil, api.ErrSyntax, tokens[at+1].Col
	}
	return nodes, api.OK, 0
}

// told is what is known of a part of an expression: its kind, its nesting by the words of the chapter, its text.
type told struct {
	kind, nesting int
	text          string
}

func more(yes bool) int {
	if yes {
		return 1
	}
	return 0
}

func enclosed(t told, yes bool) string {
	if yes {
		return "(" + t.text + ")"
	}
	return t.text
}

// tellTree goes along the list with a pile; false, if it is no expression.
func tellTree(e []api.Node) (told, bool) {
	var pile []told
	for _, n := range e {
		if n.Kind != api.NodeTest && n.Test != (api.Test{}) {
			return told{}, false
		}
		size := len(pile)
		switch n.Kind {
		case api.NodeAny, api.NodeNone:
			pile = append(pile, told{n.Kind, 0, map[int]string{1: "any", 2: "none"}[n.Kind]})
		case api.NodeTest:
			pile = append(pile, told{n.Kind, 0, tellTest(n.Test)})
		case api.NodeNot:
			if size < 1 {
				return told{}, false
			}
			a := pile[size-1]
			joins := a.kind == api.NodeAnd || a.kind == api.NodeOr
			pile[size-1] = told{n.Kind, 1 + a.nesting + more(joins), "!" + enclosed(a, joins)}
		case api.NodeAnd, api.NodeOr:
			if size < 2 {
				return told{}, false
			}
			a, b := pile[size-2], pile[size-1]
			aIn, bIn, sign := a.kind == api.NodeOr, b.kind == api.NodeAnd || b.kind == api.NodeOr, " & "
			if n.Kind == api.NodeOr {
				aIn, bIn, sign = false, b.kind == api.NodeOr, " | "
			}
			pile = append(pile[:size-2], told{n.Kind, max(a.nesting+more(aIn), b.nesting+more(bIn)), enclosed(a, aIn) + sign + enclosed(b, bIn)})
		default:
			return told{}, false
		}
	}
	if len(pile) != 1 {
		return told{}, false
	}
	return pile[0], true
}

func tellQuad(v int) string {
	return fmt.Sprintf("%d.%d.%d.%d", v>>24, v>>16&255, v>>8&255, v&255)
}

func tellDigits(v int) string {
	if v < 65536 {
		return fmt.Sprint(v)
	}
	return tellQuad(v)
}

// tellTest: the text of a test that some text gives.
func tellTest(t api.Test) string {
	for sign, op := range signOps {
		if op == t.Op {
			value := map[int]string{1: tellDigits(t.Lo), 2: tellQuad(t.Lo) + "/" + tellDigits(t.Len), 3: tellDigits(t.Lo) + ".." + tellDigits(t.Hi), 4: "%" + t.Pattern}
			return t.Field + " " + sign + " " + value[t.Form]
		}
	}
	return ""
}

// tellGiven: whether some text gives the test, by the list of P5.3.
func tellGiven(t api.Test) bool {
	beyond := func(v int) bool { return v < 0 || v > 4294967295 }
	switch {
	case !nameForm.MatchString(t.Field) || t.Field == "any" || t.Field == "none":
		return false
	case t.Op < 1 || t.Op > 6 || t.Form < 1 || t.Form > 4 || t.Op > 2 && t.Form != 1:
		return false
	case beyond(t.Lo) || beyond(t.Hi) || beyond(t.Len):
		return false
	case t.Form == 4 && !patternForm.MatchString("%"+t.Pattern):
		return false
	case t.Form == 4 && t.Lo != 0, t.Form != 3 && t.Hi != 0, t.Form != 2 && t.Len != 0, t.Form != 4 && t.Pattern != "":
		return false
	}
	return true
}

// tellPrint: what Print is to answer.
func tellPrint(e []api.Node) (string, api.Errno) {
	if len(e) > 64 {
		return "", api.ErrNodes
	}
	whole, ok := tellTree(e)
	if !ok || slices.ContainsFunc(e, func(n api.Node) bool { return n.Kind == api.NodeTest && !tellGiven(n.Test) }) {
		return "", api.ErrTree
	}
	if whole.nesting > 32 {
		return "", api.ErrDeep
	}
	return whole.text, api.OK
}

// tellCheck: what Check is to answer.
func tellCheck(fields []api.Field, e []api.Node) api.Errno {
	if errno, _ := field.Check(fields); errno != api.OK {
		return errno
	}
	if len(e) > 64 {
		return api.ErrNodes
	}
	whole, ok := tellTree(e)
	if !ok {
		return api.ErrTree
	}
	if whole.nesting > 32 {
		return api.ErrDeep
	}
	for _, n := range e {
		if n.Kind == api.NodeTest {
			if _, errno := field.Cubes(fields, n.Test); errno != api.OK {
				return errno
			}
		}
	}
	return api.OK
}

// tellHolds: whether a test holds for a header, by the digits at its field's places.
func tellHolds(fields []api.Field, t api.Test, header string) bool {
	part, bits := "", 0
	for _, f := range fields {
		if f.Name == t.Field {
			part, bits = header[:f.Bits], f.Bits
		}
		header = header[f.Bits:]
	}
	number := func(v int) string { return fmt.Sprintf("%0*b", bits, v) }
	is := false
	switch t.Form {
	case api.FormNumber:
		is = part == number(t.Lo)
	case api.FormPrefix:
		is = strings.HasPrefix(part, number(t.Lo)[:t.Len])
	case api.FormRange:
		is = number(t.Lo) <= part && part <= number(t.Hi)
	case api.FormPattern:
		c, _ := tern.Parse(t.Pattern)
		is = c.Has(part)
	}
	order := strings.Compare(part, number(t.Lo))
	return []bool{false, is, !is, order < 0, order <= 0, order > 0, order >= 0}[t.Op]
}

// tellEval: whether an expression without a fault holds for a header.
func tellEval(fields []api.Field, e []api.Node, header string) bool {
	var pile []bool
	for _, n := range e {
		last := len(pile) - 1
		switch n.Kind {
		case api.NodeAny, api.NodeNone:
			pile = append(pile, n.Kind == api.NodeAny)
		case api.NodeTest:
			pile = append(pile, tellHolds(fields, n.Test, header))
		case api.NodeNot:
			pile[last] = !pile[last]
		case api.NodeAnd:
			pile = append(pile[:last-1], pile[last-1] && pile[last])
		case api.NodeOr:
			pile = append(pile[:last-1], pile[last-1] || pile[last])
		}
	}
	return pile[0]
}

// tellSpace goes by the words of P5.7, cube by cube.
func tellSpace(fields []api.Field, e []api.Node) (space.Space, api.Errno) {
	if errno := tellCheck(fields, e); errno != api.OK {
		return space.Space{}, errno
	}
	bits := 0
	for _, f := range fields {
		bits += f.Bits
	}
	all, _ := space.Of(tern.All(bits))
	var pile []space.Space
	for _, n := range e {
		var s space.Space
		errno, last := api.OK, len(pile)-1
		switch n.Kind {
		case api.NodeAny:
			s = all
		case api.NodeNone:
			s = space.None(bits)
		case api.NodeTest:
			s, errno = tellTestSpace(fields, n.Test, all)
		case api.NodeNot:
			s, errno = all.Minus(pile[last])
			pile = pile[:last]
		case api.NodeAnd:
			s, errno = pile[last-1].Meet(pile[last])
			pile = pile[:last-1]
		case api.NodeOr:
			s, errno = pile[last-1].Join(pile[last])
			pile = pile[:last-1]
		}
		if errno != api.OK {
			return space.Space{}, errno
		}
		pile = append(pile, s)
	}
	return pile[0], api.OK
}

func tellTestSpace(fields []api.Field, t api.Test, all space.Space) (space.Space, api.Errno) {
	denied := t.Op == api.OpNot
	if denied {
		t.Op = api.OpIs
	}
	cubes, _ := field.Cubes(fields, t)
	sum := space.None(all.Bits())
	for _, text := range cubes {
		c, _ := tern.Parse(text)
		one, _ := space.Of(c)
		var errno api.Errno
		if sum, errno = sum.Join(one); errno != api.OK {
			return space.Space{}, errno
		}
	}
	if denied {
		return all.Minus(sum)
	}
	return sum, api.OK
}

// source hands out numbers that look mixed, the same ones each time.
type source uint64

func (s *source) below(n int) int {
	*s = *s*6364136223846793005 + 1442695040888963407
	return int(uint64(*s) >> 33 % uint64(n))
}

// value: one of so many bits, near the ends as often as between them.
func (s *source) value(bits int) int {
	v := s.below(1<<min(bits, 31)) << (bits - min(bits, 31)) >> s.below(bits)
	if s.below(2) == 0 {
		return 1<<bits - 1 - v
	}
	return v
}

func (s *source) digits(alphabet string, size int) string {
	text := make([]byte, size)
	for place := range text {
		text[place] = alphabet[s.below(len(alphabet))]
	}
	return string(text)
}

// test: one that fits its field.
func (s *source) test(fields []api.Field) api.Node {
	f := fields[s.below(len(fields))]
	op := 1 + s.below(2)
	switch s.below(5) {
	case 0:
		size := s.below(f.Bits + 1)
		return prefix(f.Name, op, s.value(f.Bits)>>(f.Bits-size)<<(f.Bits-size), size)
	case 1:
		a, b := s.value(f.Bits), s.value(f.Bits)
		return span(f.Name, op, min(a, b), max(a, b))
	case 2:
		return pattern(f.Name, op, s.digits("01x", f.Bits))
	case 3:
		return number(f.Name, op, s.value(f.Bits))
	}
	return number(f.Name, 1+s.below(6), s.value(f.Bits))
}

// tree: an expression of so many leaves, with denials between.
func (s *source) tree(leaves int, leaf func() api.Node) []api.Node {
	if leaves == 1 {
		return s.denied(list(leaf()))
	}
	left := 1 + s.below(leaves-1)
	e := append(s.tree(left, leaf), s.tree(leaves-left, leaf)...)
	return s.denied(append(e, []api.Node{andNode, orNode}[s.below(2)]))
}

func (s *source) denied(e []api.Node) []api.Node {
	for s.below(4) == 0 {
		e = append(e, notNode)
	}
	return e
}

// expression: over these fields, with some leaves that are no tests.
func (s *source) expression(fields []api.Field, leaves int) []api.Node {
	return s.tree(leaves, func() api.Node {
		if s.below(8) == 0 {
			return []api.Node{anyNode, noneNode}[s.below(2)]
		}
		return s.test(fields)
	})
}

// layout: some fields with names that differ.
func (s *source) layout(most int) []api.Field {
	fields := make([]api.Field, 1+s.below(4))
	for n := range fields {
		fields[n] = api.Field{Name: string(rune('a' + n)), Bits: 1 + s.below(most)}
	}
	return fields
}
