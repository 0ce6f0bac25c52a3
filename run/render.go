package run

import (
	"strconv"
	"strings"

	"reach/api"
)

// Render writes an outcome as a text.
func Render(r api.Result) string {
	code, line := strconv.Itoa(int(r.Code)), strconv.Itoa(r.Line)
	switch r.Kind {
	case api.ResultParse:
		if r.Text == ofConfig {
			return "parse error " + code + " in the configuration, line " + line + "\n"
		}
		return "parse error " + code + " in the query, line " + line + "\n"
	case api.ResultIll:
		if r.Text == ofConfig {
			return "ill-formed " + code + " in the configuration\n"
		}
		return "ill-formed " + code + " in query " + line + "\n"
	case api.ResultBudget:
		return "budget exceeded\n"
	case api.ResultReplies:
		var w writer
		for _, reply := range r.Replies {
			w.reply(reply)
		}
		return w.text.String()
	}
	return ""
}

// writer writes replies line by line.
type writer struct{ text strings.Builder }

func (w *writer) reply(r api.Reply) {
	w.head(r.Kind, r.Found)
	w.word("space", r.Space)
	w.word("witness", r.Witness)
	w.list("path", r.Ports, " ")
	w.list("by", r.Entries, ", ")
	w.word("final", r.Final)
	for _, line := range r.Lines {
		w.indented(line)
	}
	if r.More {
		w.indented("more")
	}
}

func (w *writer) head(kind int, found bool) {
	word, outcome := "reply", ": none\n"
	if isQuery(kind) {
		word = words[kind]
	}
	if found {
		outcome = ": found\n"
	}
	w.text.WriteString(word + outcome)
}

// word writes what there is of one thing.
func (w *writer) word(word, what string) {
	if what != "" {
		w.indented(word + " " + what)
	}
}

// list writes a list that has an element: what the elements say does not matter.
func (w *writer) list(word string, list []string, between string) {
	if len(list) > 0 {
		w.indented(word + " " + strings.Join(list, between))
	}
}

func (w *writer) indented(line string) { w.text.WriteString("  " + line + "\n") }
