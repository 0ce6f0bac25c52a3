package expr_test

import (
	"slices"
	"strings"
	"testing"
	"unsafe"

	"reach/api"
	"reach/expr"
)

// spoil writes over a whole list, the room behind its end too.
func spoil[T any](list []T, with T) {
	room := list[:cap(list)]
	for k := range room {
		room[k] = with
	}
}

const readable = "!(dst = 1/8 & proto < 3 | dst != 4..5) & proto = %0x11"

// A list that is answered belongs to the caller alone.
func TestAnswersAreNewMemory(t *testing.T) {
	tokens := tokensOf(t, readable)
	for n, ask := range []func() []api.Node{
		func() []api.Node { e, _, _ := expr.Parse(readable); return e },
		func() []api.Node { e, _, _ := expr.Read(tokens, 0); return e },
	} {
		first := ask()
		second := ask()
		want := slices.Clone(first)
		spoil(first, api.Node{Kind: 99})
		if third := ask(); len(want) != 8 || !slices.Equal(second, want) || !slices.Equal(third, want) {
			t.Errorf("P5.9: call %d: %v and %v; want %v", n, second, third, want)
		}
	}
}

// What is handed in stays as it was, the room behind the lists' ends too.
func TestArgumentsStayAsTheyWere(t *testing.T) {
	tokens := append(tokensOf(t, readable), tok(9, "spare"), tok(9, "room"))
	nodes, _, _ := expr.Parse(readable)
	nodes = append(slices.Clip(nodes), api.Node{Kind: 99}, api.Node{Kind: 98})
	fields := append(slices.Clip(slices.Clone(layoutF)), api.Field{Name: "spare", Bits: 77}, api.Field{Name: "room", Bits: 78})
	tokenRoom, nodeRoom, fieldRoom := slices.Clone(tokens), slices.Clone(nodes), slices.Clone(fields)
	for from := range tokens {
		expr.Read(tokens[:len(tokens)-2], from)
		expr.Read(tokens[:from], 0)
	}
	for size := range len(nodes) + 1 {
		e := nodes[:size]
		expr.Print(e)
		expr.Check(fields[:2], e)
		expr.Eval(fields[:2], e, "000000000000")
		expr.Space(fields[:2], e)
		expr.Check(fields, e)
	}
	if !slices.Equal(tokens, tokenRoom) || !slices.Equal(nodes, nodeRoom) || !slices.Equal(fields, fieldRoom) {
		t.Errorf("P5.9: %v, %v, %v", tokens, nodes, fields)
	}
}

// Not even the bytes of a token's Text are kept in what is answered.
func TestTextsOfTokensAreNotKept(t *testing.T) {
	name, digits := strings.Repeat("n", 20), "%"+strings.Repeat("01", 10)
	e, _, errno := expr.Read([]api.Token{tok(api.TokName, name), tok(api.TokSign, "="), tok(api.TokPattern, digits)}, 0)
	if errno != api.OK || e[0].Test.Field != name || "%"+e[0].Test.Pattern != digits {
		t.Fatalf("P5.1: %v, %d", e, errno)
	}
	if unsafe.StringData(e[0].Test.Field) == unsafe.StringData(name) || unsafe.StringData(e[0].Test.Pattern) == unsafe.StringData(digits[1:]) {
		t.Error("W6: an answer shares memory with a token")
	}
}

// A space that was answered does not hang on the lists it was made of.
func TestSpacesDoNotHangOnTheLists(t *testing.T) {
	fields := slices.Clone(layoutF)
	e, _, _ := expr.Parse("dst = 64/2 & !proto = 6")
	s, _ := expr.Space(fields, e)
	spoil(fields, api.Field{Name: "spoilt", Bits: 9})
	spoil(e, api.Node{Kind: 99})
	if s.Text() != "01xxxxxxxxxx-01xxxxxx0110" || s.Bits() != 12 {
		t.Errorf("P5.9: %s", s.Text())
	}
}
