package conf

import (
	"strings"

	"reach/api"
)

const (
	wordNetwork = "network"
	wordHeader  = "header"
	wordRouting = "routing"
	wordSlim    = "slim"
	wordBox     = "box"
	wordIn      = "in"
	wordOut     = "out"
	wordGuard   = "guard"
	wordPermit  = "permit"
	wordDeny    = "deny"
	wordRule    = "rule"
	wordFrom    = "from"
	wordMatch   = "match"
	wordSet     = "set"
	wordTo      = "to"
	wordDrop    = "drop"
	wordOwn     = "own"
	wordRoute   = "route"
	wordLink    = "link"
	wordCost    = "cost"
	wordSlice   = "slice"
	wordWhere   = "where"
	wordAny     = "any"
	wordNone    = "none"
	wordAt      = "at"
	wordNo      = "no"

	signColon = ":"
	signComma = ","
	signEqual = "="
	signSlash = "/"
	signArrow = "->"

	// plainCost is the cost of a link that names none.
	plainCost = 1
)

// The words that no thing may be named.
var reserved = [...]string{
	wordNetwork, wordHeader, wordRouting, wordSlim, wordBox, wordIn, wordOut, wordGuard, wordPermit,
	wordDeny, wordRule, wordFrom, wordMatch, wordSet, wordTo, wordDrop, wordOwn, wordRoute,
	wordLink, wordCost, wordSlice, wordWhere, wordAny, wordNone, wordAt, wordNo,
}

func isReserved(name string) bool {
	for _, word := range reserved {
		if word == name {
			return true
		}
	}
	return false
}

// isName: whether a token may name a thing.
func isName(t api.Token) bool { return t.Kind == api.TokName && !isReserved(t.Text) }

// isPort: whether a token may name a port of a box.
func isPort(t api.Token) bool {
	box, port, _ := strings.Cut(t.Text, ".")
	return t.Kind == api.TokPort && !isReserved(box) && !isReserved(port)
}

// place is where a line may stand, by its keyword.
type place int

const (
	placeHead place = iota + 1 // once, ahead of the other places
	placeBox
	placeBody // behind a box
	placeFree // links and slices
	placeAt   // only in edits, as is the next
	placeNo
)

// keyword is what a line begins with. read reads what stands behind it; named reads what stands behind it where the line began with `no`: only what names a thing.
type keyword struct {
	word        string
	place       place
	read, named func(*reader)
}

// keywords are those of a network's text.
func keywords() []keyword {
	return []keyword{
		{wordNetwork, placeHead, (*reader).title, nil},
		{wordHeader, placeHead, (*reader).fields, nil},
		{wordRouting, placeHead, (*reader).routing, nil},
		{wordBox, placeBox, (*reader).box, (*reader).box},
		{wordIn, placeBody, (*reader).ins, (*reader).namedIn},
		{wordOut, placeBody, (*reader).outs, (*reader).namedOut},
		{wordGuard, placeBody, (*reader).guard, (*reader).namedGuard},
		{wordRule, placeBody, (*reader).rule, (*reader).namedRule},
		{wordOwn, placeBody, (*reader).own, (*reader).namedOwn},
		{wordRoute, placeBody, (*reader).route, (*reader).namedRoute},
		{wordLink, placeFree, (*reader).link, (*reader).namedLink},
		{wordSlice, placeFree, (*reader).slice, (*reader).namedSlice},
	}
}

// editWords are those of a change's line.
func editWords() []keyword {
	return append(keywords(),
		keyword{wordAt, placeAt, (*reader).at, (*reader).namedAt},
		keyword{wordNo, placeNo, (*reader).no, nil},
	)
}
