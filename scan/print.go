package scan

import "reach/api"

// The pairs between which no space is written. An empty Text or a Kind of 0 is every one; the Text of a sign is that of no other token.
var joined = [...]struct{ left, right api.Token }{
	{right: api.Token{Kind: api.TokEnd}},
	{left: api.Token{Kind: api.TokEnd}},
	{left: api.Token{Text: "("}},
	{left: api.Token{Text: "/"}},
	{left: api.Token{Text: ".."}},
	{left: api.Token{Text: ":"}},
	{right: api.Token{Text: ")"}},
	{right: api.Token{Text: ","}},
	{right: api.Token{Text: "/"}},
	{right: api.Token{Text: ".."}},
	{right: api.Token{Text: ":"}},
	{api.Token{Text: "!"}, api.Token{Kind: api.TokName}},
	{api.Token{Text: "!"}, api.Token{Text: "("}},
	{api.Token{Text: "!"}, api.Token{Text: "!"}},
}

// Print writes tokens as a text.
func Print(tokens []api.Token) (string, api.Errno) {
	if len(tokens) > api.MaxText {
		return "", api.ErrLong
	}
	if !areLines(tokens) {
		return "", api.ErrToken
	}
	var text []byte
	for i, t := range tokens {
		if i > 0 && !isJoined(tokens[i-1], t) {
			text = append(text, ' ')
		}
		text = append(text, t.Text...)
		if len(text) > api.MaxText {
			return "", api.ErrLong
		}
	}
	return string(text), api.OK
}

// areLines: whether these are tokens, and lines of them that all have some and all end.
func areLines(tokens []api.Token) bool {
	last := api.TokEnd
	for _, t := range tokens {
		if !isToken(t) || t.Kind == api.TokEnd && last == api.TokEnd {
			return false
		}
		last = t.Kind
	}
	return last == api.TokEnd
}

// isToken: whether the token's Text is wholly one token of its Kind.
func isToken(t api.Token) bool {
	if t.Kind == api.TokEnd {
		return t.Text == newline
	}
	found, _, _, _ := Scan(t.Text)
	return len(found) == 2 && found[0].Kind == t.Kind && found[0].Text == t.Text
}

func isJoined(left, right api.Token) bool {
	for _, pair := range joined {
		if isLike(left, pair.left) && isLike(right, pair.right) {
			return true
		}
	}
	return false
}

func isLike(t, wanted api.Token) bool {
	return (wanted.Kind == 0 || wanted.Kind == t.Kind) && (wanted.Text == "" || wanted.Text == t.Text)
}
