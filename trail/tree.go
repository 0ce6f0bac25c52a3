package trail

import "strings"

// The pieces of a pattern that have a meaning of their own.
const (
	dot     = "." // between the names of a box and a port
	anyName = "."
	denial  = "!"
	once    = "+" // or more often
	maybe   = "?"
)

// The kinds of nodes.
const (
	leaf = iota
	sequence
	choice
	suffix
)

// node is a part of a pattern. No sequence stands directly in a sequence, no choice directly in a choice, and none of the two has just one part.
type node struct {
	kind  int
	sign  string // of a leaf: all of it; of a suffix
	parts []node // of a suffix: the one that it stands behind
}

// join is a sequence or a choice of these parts. Those of its own kind are laid into it, and one that is alone is all of it.
func join(kind int, parts []node) node {
	var laid []node
	for _, p := range parts {
		if p.kind == kind {
			laid = append(laid, p.parts...)
		} else {
			laid = append(laid, p)
		}
	}
	if len(laid) == 1 {
		return laid[0]
	}
	return node{kind: kind, parts: laid}
}

// text is what the pattern tells.
func (n node) text() string {
	switch n.kind {
	case sequence:
		return strings.Join(n.partTexts(), " ")
	case choice:
		return strings.Join(n.partTexts(), " | ")
	case suffix:
		return strings.Join(n.partTexts(), "") + n.sign
	}
	return n.sign
}

func (n node) partTexts() []string {
	var texts []string
	for _, p := range n.parts {
		text := p.text()
		if n.brackets(p) {
			text = "(" + text + ")"
		}
		texts = append(texts, text)
	}
	return texts
}

// brackets tells whether a part of n would be read otherwise without brackets.
func (n node) brackets(part node) bool {
	switch n.kind {
	case sequence:
		return part.kind == choice
	case choice:
		return part.kind == sequence && len(part.parts) == 0
	}
	return part.kind == sequence || part.kind == choice
}
