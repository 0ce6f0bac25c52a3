package expr

import (
	"reach/api"
	"reach/space"
)

// node is an expression as a tree: each kind of node tells by itself what it means.
type node interface {
	fault(fields []api.Field) api.Errno // of its first test that does not fit the fields
	isGiven() bool                      // whether there are texts that give its tests
	nesting() int
	text() string
	holds(p packet) bool
	headers(fields []api.Field) (space.Space, api.Errno)
}

// The levels of the grammar: where one of them is asked for, all that is above it may stand without brackets.
const (
	levelExpression = iota
	levelChain
	levelFactor
)

// What the nodes take from the pile, by their kind.
var takes = [...]int{
	api.NodeAny:  0,
	api.NodeNone: 0,
	api.NodeTest: 0,
	api.NodeNot:  1,
	api.NodeAnd:  2,
	api.NodeOr:   2,
}

// treeOf makes a tree of a list of nodes.
func treeOf(e []api.Node) (node, api.Errno) {
	if len(e) > api.MaxNodes {
		return nil, api.ErrNodes
	}
	var pile []node
	for _, n := range e {
		if !isNode(n) || len(pile) < takes[n.Kind] {
			return nil, api.ErrTree
		}
		left := len(pile) - takes[n.Kind]
		pile = append(pile[:left], nodeOf(n, pile[left:]))
	}
	if len(pile) != 1 {
		return nil, api.ErrTree
	}
	return pile[0], api.OK
}

// isNode: whether there is such a node, whatever its test.
func isNode(n api.Node) bool {
	return api.NodeAny <= n.Kind && n.Kind <= api.NodeOr && (n.Kind == api.NodeTest || n.Test == api.Test{})
}

// nodeOf makes a node over those that it takes.
func nodeOf(n api.Node, taken []node) node {
	switch n.Kind {
	case api.NodeAny:
		return anyLeaf{}
	case api.NodeNone:
		return noneLeaf{}
	case api.NodeNot:
		return denial{taken[0]}
	case api.NodeAnd:
		return both{sides{taken[0], taken[1]}}
	case api.NodeOr:
		return either{sides{taken[0], taken[1]}}
	}
	return testLeaf{Test: n.Test}
}

// levelOf: as what a node may stand in the grammar without brackets.
func levelOf(n node) int {
	switch n.(type) {
	case either:
		return levelExpression
	case both:
		return levelChain
	}
	return levelFactor
}

// textAt is the text of a node where that level is asked for.
func textAt(level int, n node) string {
	if levelOf(n) < level {
		return signOpen + n.text() + signClose
	}
	return n.text()
}

// nestingAt is the nesting of a node where that level is asked for.
func nestingAt(level int, n node) int {
	if levelOf(n) < level {
		return 1 + n.nesting()
	}
	return n.nesting()
}

type denial struct{ denied node }

func (d denial) fault(fields []api.Field) api.Errno { return d.denied.fault(fields) }

func (d denial) isGiven() bool { return d.denied.isGiven() }

func (d denial) nesting() int { return 1 + nestingAt(levelFactor, d.denied) }

func (d denial) text() string { return signNot + textAt(levelFactor, d.denied) }

func (d denial) holds(p packet) bool { return !d.denied.holds(p) }

func (d denial) headers(fields []api.Field) (space.Space, api.Errno) {
	return sides{anyLeaf{}, d.denied}.combined(fields, space.Space.Minus)
}

// sides are what And and Or join.
type sides struct{ left, right node }

func (s sides) fault(fields []api.Field) api.Errno {
	if errno := s.left.fault(fields); errno != api.OK {
		return errno
	}
	return s.right.fault(fields)
}

func (s sides) isGiven() bool { return s.left.isGiven() && s.right.isGiven() }

// nestingBy is the nesting where the two sides have to be of these levels.
func (s sides) nestingBy(left, right int) int {
	return max(nestingAt(left, s.left), nestingAt(right, s.right))
}

// textBy is the text with a sign between, where the two sides have to be of these levels.
func (s sides) textBy(left int, sign string, right int) string {
	return textAt(left, s.left) + " " + sign + " " + textAt(right, s.right)
}

// combined makes one space of those of both sides.
func (s sides) combined(fields []api.Field, combine func(left, right space.Space) (space.Space, api.Errno)) (space.Space, api.Errno) {
	left, errno := s.left.headers(fields)
	if errno != api.OK {
		return space.Space{}, errno
	}
	right, errno := s.right.headers(fields)
	if errno != api.OK {
		return space.Space{}, errno
	}
	return combine(left, right)
}

// Chains group to the left: the right side of And and of Or is of a higher level than the left one.

type both struct{ sides }

func (b both) nesting() int { return b.nestingBy(levelChain, levelFactor) }

func (b both) text() string { return b.textBy(levelChain, signAnd, levelFactor) }

func (b both) holds(p packet) bool { return b.left.holds(p) && b.right.holds(p) }

func (b both) headers(fields []api.Field) (space.Space, api.Errno) {
	return b.combined(fields, space.Space.Meet)
}

type either struct{ sides }

func (e either) nesting() int { return e.nestingBy(levelExpression, levelChain) }

func (e either) text() string { return e.textBy(levelExpression, signOr, levelChain) }

func (e either) holds(p packet) bool { return e.left.holds(p) || e.right.holds(p) }

func (e either) headers(fields []api.Field) (space.Space, api.Errno) {
	return e.combined(fields, space.Space.Join)
}

// widthOf is how many bits a layout's headers have.
func widthOf(fields []api.Field) int {
	bits := 0
	for _, f := range fields {
		bits += f.Bits
	}
	return bits
}
