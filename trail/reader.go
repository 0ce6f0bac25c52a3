package trail

import (
	"strings"

	"reach/api"
)

// The classes of bytes: the steps of the reader hang on nothing else.
const (
	classEnd = iota // behind the text's last byte
	classBlank
	classLetter
	classDigit
	classDot
	classDenial
	classSuffix
	classBar
	classOpen
	classClose
	classOther
)

// reader makes a tree of a pattern's text.
type reader struct {
	text  string
	at    int // the byte that is looked at; where the text is refused, that byte
	items int
	open  []level // the whole pattern, and each bracket that is open
}

// level is a pattern that is not read to its end.
type level struct {
	choices []node // the sequences that are
	parts   []node // of the last sequence
}

// run goes through the whole text; false, if it is refused. The labels are its places; within a name it is at those of passName.
func (r *reader) run() bool {
	first := 0
	goto between

on:
	r.at++

between:
	switch r.class() {
	case classEnd:
		return len(r.open) == 1
	case classBlank:
		goto on
	case classDot, classLetter, classDenial:
		goto atom
	case classSuffix:
		goto behind
	case classBar:
		goto bar
	case classOpen:
		goto enter
	case classClose:
		goto leave
	}
	return false

atom:
	first = r.at
	if !r.count() || !r.passLeaf() {
		return false
	}
	r.innermost().put(node{kind: leaf, sign: r.text[first:r.at]})
	goto between

behind:
	if !r.count() || !r.innermost().putSuffix(r.text[r.at:r.at+1]) {
		return false
	}
	goto on

bar:
	if !r.count() {
		return false
	}
	r.innermost().endSequence()
	goto on

enter:
	if len(r.open) > api.MaxDepth {
		return false
	}
	r.open = append(r.open, level{})
	goto on

leave:
	if !r.leave() {
		return false
	}
	goto on
}

// count counts the item that begins here; false, if there are too many.
func (r *reader) count() bool {
	r.items++
	return r.items <= api.MaxItems
}

// passLeaf goes on behind the leaf that begins here; false, if there is none.
func (r *reader) passLeaf() bool {
	switch r.class() {
	case classDot:
		r.at++
		return true
	case classDenial:
		r.at++
	}
	return r.class() == classLetter && r.passName()
}

// passName goes on behind the name that begins here; false, if a run of it is too long: then it stays.
func (r *reader) passName() bool {
	first := r.at

box:
	r.at++
	if r.inWord() {
		goto box
	}
	if r.class() != classDot || r.classAt(r.at+1) != classLetter {
		goto named
	}

port:
	r.at++
	if r.inWord() {
		goto port
	}

named:
	for run := range strings.SplitSeq(r.text[first:r.at], dot) {
		if len(run) > api.MaxName {
			r.at = first
			return false
		}
	}
	return true
}

func (r *reader) innermost() *level { return &r.open[len(r.open)-1] }

// leave makes a part of the innermost bracket; false, if none is open.
func (r *reader) leave() bool {
	outer := len(r.open) - 1
	if outer == 0 {
		return false
	}
	inner := r.innermost().whole()
	r.open = r.open[:outer]
	r.innermost().put(inner)
	return true
}

func (r *reader) class() int { return r.classAt(r.at) }

func (r *reader) classAt(at int) int {
	if at >= len(r.text) {
		return classEnd
	}
	return classOf(r.text[at])
}

func (r *reader) inWord() bool {
	c := r.class()
	return c == classLetter || c == classDigit
}

func (l *level) put(part node) { l.parts = append(l.parts, part) }

// putSuffix lays a suffix around the last part of the sequence; false, if it has none. A sequence is laid into another one only at that one's end: so a bracket still is one part here.
func (l *level) putSuffix(sign string) bool {
	if len(l.parts) == 0 {
		return false
	}
	last := &l.parts[len(l.parts)-1]
	*last = node{kind: suffix, sign: sign, parts: []node{*last}}
	return true
}

func (l *level) endSequence() {
	l.choices = append(l.choices, join(sequence, l.parts))
	l.parts = nil
}

// whole is the pattern of the level, which ends with it.
func (l *level) whole() node {
	l.endSequence()
	return join(choice, l.choices)
}

func classOf(b byte) int {
	switch b {
	case ' ':
		return classBlank
	case '.':
		return classDot
	case '!':
		return classDenial
	case '*', '+', '?':
		return classSuffix
	case '|':
		return classBar
	case '(':
		return classOpen
	case ')':
		return classClose
	}
	switch {
	case 'a' <= b && b <= 'z', 'A' <= b && b <= 'Z', b == '_':
		return classLetter
	case '0' <= b && b <= '9':
		return classDigit
	}
	return classOther
}
