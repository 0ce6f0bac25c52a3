package conf_test

// A second telling of chapter 6, to hold the package against: a line's tokens become words, and regular expressions say which lines there are; networks are taken apart by reflection.

import (
	"fmt"
	"reflect"
	"regexp"
	"slices"
	"strings"

	"reach/api"
	"reach/expr"
	"reach/scan"
)

const (
	reservedWords = " network header routing slim box in out guard permit deny rule from match set to drop own route link cost slice where any none at no "
	headWords     = " network header routing "
	bodyWords     = " in out guard rule own route "
	freeWords     = " box link slice "
	editWords     = " at no "
	textWords     = headWords + freeWords + bodyWords
)

func isOneOf(words, word string) bool { return strings.Contains(words, " "+word+" ") }

// The forms of the lines: ahead of the expression, and behind it. Each token has a blank behind it.
var forms = map[string][2]*regexp.Regexp{
	"network": form(`network TEXT END `, ``),
	"header":  form(`header (NAME : NUMBER )+END `, ``),
	"routing": form(`routing NAME (slim )?END `, ``),
	"box":     form(`box NAME END `, ``),
	"in":      form(`in (NAME )+END `, ``),
	"out":     form(`out (NAME )+END `, ``),
	"guard":   form(`guard NAME (permit|deny) `, `END `),
	"rule":    form(`rule NUMBER (from (NAME )+)?match `, `(set NAME = NUMBER (, NAME = NUMBER )*)?(drop |to NAME (, NAME )*)END `),
	"own":     form(`own NUMBER / NUMBER to NAME END `, ``),
	"route":   form(`route NUMBER / NUMBER to NAME END `, ``),
	"link":    form(`link PORT -> PORT (cost NUMBER )?END `, ``),
	"slice":   form(`slice NAME (PORT )*where `, `END `),
}

// The forms of lines that take something away.
var awayForms = map[string]*regexp.Regexp{
	"box": form(`box NAME END `, ``)[0], "link": form(`link PORT END `, ``)[0], "slice": form(`slice NAME END `, ``)[0],
	"in": form(`in NAME END `, ``)[0], "out": form(`out NAME END `, ``)[0], "guard": form(`guard NAME END `, ``)[0], "rule": form(`rule NUMBER END `, ``)[0],
	"own": form(`own NUMBER / NUMBER END `, ``)[0], "route": form(`route NUMBER / NUMBER END `, ``)[0],
}

// The word behind which a line's expression begins.
var openers = map[string]string{"guard": " permit deny ", "rule": " match ", "slice": " where "}

func form(ahead, behind string) [2]*regexp.Regexp {
	return [2]*regexp.Regexp{regexp.MustCompile(`^` + ahead + `$`), regexp.MustCompile(`^` + behind + `$`)}
}

// asWord: what a token is in the forms.
func asWord(t api.Token) string {
	switch t.Kind {
	case api.TokName:
		if !isOneOf(reservedWords, t.Text) {
			return "NAME"
		}
		return t.Text
	case api.TokPort:
		if parts := strings.Split(t.Text, "."); isOneOf(reservedWords, parts[0]) || isOneOf(reservedWords, parts[1]) {
			return "?"
		}
		return "PORT"
	case api.TokPattern:
		return "?"
	}
	return map[int]string{api.TokNumber: "NUMBER", api.TokText: "TEXT", api.TokSign: t.Text, api.TokEnd: "END"}[t.Kind]
}

func asWords(tokens []api.Token) string {
	var words strings.Builder
	for _, t := range tokens {
		words.WriteString(asWord(t) + " ")
	}
	return words.String()
}

func valueOf(t api.Token) int {
	v, _ := scan.Value(t.Text)
	return v
}

// told: the Texts of the tokens that are of that word.
func told(tokens []api.Token, word string) []string {
	var list []string
	for _, t := range tokens {
		if asWord(t) == word {
			list = append(list, t.Text)
		}
	}
	return list
}

func numbers(tokens []api.Token) []int {
	var list []int
	for _, t := range tokens {
		if t.Kind == api.TokNumber {
			list = append(list, valueOf(t))
		}
	}
	return list
}

// tellLine: a line of a keyword, its end among its tokens, as a network of its own: a line of a body stands in a box without a name.
func tellLine(line []api.Token) (api.Config, api.Errno) {
	word := line[0].Text
	ahead, behind := line, []api.Token(nil)
	var match []api.Node
	if opener := openers[word]; opener != "" {
		at := slices.IndexFunc(line, func(t api.Token) bool { return isOneOf(opener, t.Text) })
		if at < 0 || !forms[word][0].MatchString(asWords(line[:at+1])) {
			return api.Config{}, api.ErrSyntax
		}
		nodes, to, errno := expr.Read(line, at+1)
		if errno != api.OK {
			return api.Config{}, errno
		}
		ahead, match, behind = line[:at+1], nodes, line[to:]
	}
	if !forms[word][0].MatchString(asWords(ahead)) || !forms[word][1].MatchString(asWords(behind)) {
		return api.Config{}, api.ErrSyntax
	}
	return tellRight(word, ahead, match, behind), api.OK
}

// tellRight: what a line says that has its form.
func tellRight(word string, ahead []api.Token, match []api.Node, behind []api.Token) api.Config {
	names, ports, values := told(ahead, "NAME"), told(ahead, "PORT"), numbers(ahead)
	inBox := func(b api.Box) api.Config { return api.Config{Boxes: []api.Box{b}} }
	switch word {
	case "network":
		title, _, _ := scan.Unquote(ahead[1].Text)
		return api.Config{Title: title}
	case "header":
		var c api.Config
		for n, name := range names {
			c.Fields = append(c.Fields, api.Field{Name: name, Bits: values[n]})
		}
		return c
	case "routing":
		return api.Config{Routing: names[0], Slim: len(told(ahead, "slim")) > 0}
	case "box":
		return inBox(api.Box{Name: names[0]})
	case "in":
		return inBox(api.Box{Ins: names})
	case "out":
		return inBox(api.Box{Outs: names})
	case "guard":
		return inBox(api.Box{Guards: []api.Line{{Port: names[0], Permit: ahead[2].Text == "permit", Match: match}}})
	case "rule":
		return inBox(api.Box{Rules: []api.Rule{tellRule(values[0], names, match, behind)}})
	case "own":
		return inBox(api.Box{Owns: []api.Prefix{{Value: values[0], Len: values[1], To: names[0]}}})
	case "route":
		return inBox(api.Box{Routes: []api.Prefix{{Value: values[0], Len: values[1], To: names[0]}}})
	case "link":
		return api.Config{Links: []api.Link{{From: ports[0], To: ports[1], Cost: append(values, 1)[0]}}}
	}
	return api.Config{Slices: []api.Slice{{Name: names[0], Ports: ports, Where: match}}}
}

func tellRule(priority int, from []string, match []api.Node, behind []api.Token) api.Rule {
	u := api.Rule{Priority: priority, From: from, Match: match}
	to := max(0, slices.IndexFunc(behind, func(t api.Token) bool { return t.Text == "to" || t.Text == "drop" }))
	values := numbers(behind)
	for n, name := range told(behind[:to], "NAME") {
		u.Sets = append(u.Sets, api.Set{Field: name, Value: values[n]})
	}
	u.To = told(behind[to:], "NAME")
	return u
}

// mayStand: whether a line may stand behind lines of these keywords.
func mayStand(earlier []string, word string) bool {
	if isOneOf(headWords, word) {
		return !slices.ContainsFunc(earlier, func(e string) bool { return isOneOf(freeWords, e) || e == word })
	}
	if !isOneOf(bodyWords, word) {
		return true
	}
	for _, e := range slices.Backward(earlier) {
		if !isOneOf(bodyWords, e) {
			return e == "box"
		}
	}
	return false
}

// tellParse: what Parse is to answer.
func tellParse(text string) (api.Config, api.Errno, int) {
	tokens, errno, line, _ := scan.Scan(text)
	if errno != api.OK {
		return api.Config{}, errno, line
	}
	var c api.Config
	var earlier []string
	for len(tokens) > 0 {
		size := 1 + slices.IndexFunc(tokens, func(t api.Token) bool { return t.Kind == api.TokEnd })
		word := tokens[0].Text
		switch {
		case !isOneOf(textWords, word):
			return api.Config{}, api.ErrKeyword, tokens[0].Line
		case !mayStand(earlier, word):
			return api.Config{}, api.ErrOrder, tokens[0].Line
		}
		said, errno := tellLine(tokens[:size])
		if errno != api.OK {
			return api.Config{}, errno, tokens[0].Line
		}
		joinTold(&c, said, isOneOf(bodyWords, word), len(c.Boxes)-1)
		earlier = append(earlier, word)
		tokens = tokens[size:]
	}
	return c, api.OK, 0
}

// joinTold puts what one line says behind all else; a body's into the box at that place.
func joinTold(c *api.Config, said api.Config, isBody bool, at int) {
	into, from := reflect.ValueOf(c).Elem(), reflect.ValueOf(said)
	if isBody {
		into, from = reflect.ValueOf(&c.Boxes[at]).Elem(), reflect.ValueOf(said.Boxes[0])
	}
	for n := range into.NumField() {
		switch {
		case from.Field(n).Kind() == reflect.Slice:
			into.Field(n).Set(reflect.AppendSlice(into.Field(n), from.Field(n)))
		case !from.Field(n).IsZero():
			into.Field(n).Set(from.Field(n))
		}
	}
}

// tellDue: what is wrong with a token where one of these keywords is due.
func tellDue(t api.Token, may string) api.Errno {
	switch {
	case isOneOf(may, t.Text):
		return api.OK
	case isOneOf(textWords+editWords, t.Text):
		return api.ErrOrder
	}
	return api.ErrKeyword
}

// tellEdit: what Edit is to answer.
func tellEdit(c api.Config, line string) (api.Config, api.Errno) {
	tokens, errno, _, _ := scan.Scan(line)
	switch {
	case errno != api.OK:
		return api.Config{}, errno
	case len(tokens) == 0:
		return api.Config{}, api.ErrKeyword
	}
	size := 1 + slices.IndexFunc(tokens, func(t api.Token) bool { return t.Kind == api.TokEnd })
	rest, more := tokens[:size], len(tokens) > size
	away, within, may := false, "", freeWords+editWords
	if rest[0].Text == "no" {
		away, may, rest = true, freeWords+" at ", rest[1:]
	}
	if rest[0].Text == "at" {
		if asWord(rest[1]) != "NAME" {
			return api.Config{}, api.ErrSyntax
		}
		within, may, rest = rest[1].Text, bodyWords, rest[2:]
	}
	if errno := tellDue(rest[0], may); errno != api.OK {
		return api.Config{}, errno
	}
	if away {
		if more || !awayForms[rest[0].Text].MatchString(asWords(rest)) {
			return api.Config{}, api.ErrSyntax
		}
		return tellAway(c, within, rest)
	}
	said, errno := tellLine(rest)
	switch {
	case errno != api.OK:
		return api.Config{}, errno
	case more:
		return api.Config{}, api.ErrSyntax
	}
	return tellAdded(c, within, rest[0].Text, said)
}

// lists: the field of a network, or of a box, that a keyword tells of; and what names its elements.
var lists = map[string]struct {
	field string
	key   []string
}{
	"box": {"Boxes", []string{"Name"}}, "link": {"Links", []string{"From"}}, "slice": {"Slices", []string{"Name"}},
	"in": {"Ins", nil}, "out": {"Outs", nil}, "guard": {"Guards", []string{"Port"}}, "rule": {"Rules", []string{"Priority"}},
	"own": {"Owns", []string{"Value", "Len"}}, "route": {"Routes", []string{"Value", "Len"}},
}

// keyOf: what names an element of the list of that keyword.
func keyOf(word string, element reflect.Value) string {
	if lists[word].key == nil {
		return element.String()
	}
	var key []string
	for _, name := range lists[word].key {
		key = append(key, fmt.Sprint(element.FieldByName(name)))
	}
	return strings.Join(key, " ")
}

// holder: what has the list: the network, or the first box of that name; false, if there is none.
func holder(c *api.Config, within string) (reflect.Value, bool) {
	if within == "" {
		return reflect.ValueOf(c).Elem(), true
	}
	at := slices.IndexFunc(c.Boxes, func(b api.Box) bool { return b.Name == within })
	if at < 0 {
		return reflect.Value{}, false
	}
	return reflect.ValueOf(&c.Boxes[at]).Elem(), true
}

// keysOf: of all elements of a list.
func keysOf(word string, list reflect.Value) []string {
	var keys []string
	for n := range list.Len() {
		keys = append(keys, keyOf(word, list.Index(n)))
	}
	return keys
}

func tellAway(c api.Config, within string, line []api.Token) (api.Config, api.Errno) {
	c = cloned(c)
	from, ok := holder(&c, within)
	if !ok {
		return api.Config{}, api.ErrGone
	}
	word, key := line[0].Text, line[1].Text
	if values := numbers(line); len(values) > 0 {
		key = strings.Trim(fmt.Sprint(values), "[]")
	}
	list := from.FieldByName(lists[word].field)
	kept := reflect.MakeSlice(list.Type(), 0, 0)
	for n, k := range keysOf(word, list) {
		if k != key {
			kept = reflect.Append(kept, list.Index(n))
		}
	}
	if kept.Len() == list.Len() {
		return api.Config{}, api.ErrGone
	}
	list.Set(kept)
	return c, api.OK
}

func tellAdded(c api.Config, within, word string, said api.Config) (api.Config, api.Errno) {
	c = cloned(c)
	into, ok := holder(&c, within)
	if !ok {
		return api.Config{}, api.ErrGone
	}
	from := reflect.ValueOf(said)
	if within != "" {
		from = reflect.ValueOf(said.Boxes[0])
	}
	list := into.FieldByName(lists[word].field)
	have, more := keysOf(word, list), keysOf(word, from.FieldByName(lists[word].field))
	switch word {
	case "guard":
		have = nil
	case "in", "out":
		have = append(keysOf("in", into.FieldByName("Ins")), keysOf("out", into.FieldByName("Outs"))...)
	}
	for n, k := range more {
		if slices.Contains(have, k) || slices.Contains(more[:n], k) {
			return api.Config{}, api.ErrThere
		}
	}
	list.Set(reflect.AppendSlice(list, from.FieldByName(lists[word].field)))
	return c, api.OK
}

// tellPrint: what Print is to answer, by formats.
func tellPrint(c api.Config) (string, api.Errno) {
	w := &printer{}
	if c.Title != "" {
		quoted, errno := scan.Quote(c.Title)
		w.wrong = w.wrong || errno != api.OK
		w.linef("network %s", quoted)
	}
	if len(c.Fields) > 0 {
		line := "header"
		for _, f := range c.Fields {
			line += " " + w.name(f.Name) + ":" + w.number(f.Bits)
		}
		w.linef("%s", line)
	}
	if c.Routing != "" {
		w.linef("routing %s%s", w.name(c.Routing), map[bool]string{true: " slim"}[c.Slim])
	}
	w.wrong = w.wrong || c.Slim && c.Routing == ""
	for _, b := range c.Boxes {
		w.box(b)
	}
	for _, k := range c.Links {
		cost := " cost " + w.number(k.Cost)
		if k.Cost == 1 {
			cost = ""
		}
		w.linef("link %s -> %s%s", w.port(k.From), w.port(k.To), cost)
	}
	for _, s := range c.Slices {
		w.linef("slice %s where %s", strings.Join(append([]string{w.name(s.Name)}, w.each(s.Ports, w.port)...), " "), w.match(s.Where))
	}
	switch text := w.text.String(); {
	case w.wrong:
		return "", api.ErrPrint
	case len(text) > 16384:
		return "", api.ErrLong
	default:
		return text, api.OK
	}
}

type printer struct {
	text  strings.Builder
	wrong bool
}

func (w *printer) linef(format string, args ...any) { fmt.Fprintf(&w.text, format+"\n", args...) }

func (w *printer) box(b api.Box) {
	w.linef("box %s", w.name(b.Name))
	if len(b.Ins) > 0 {
		w.linef("  in %s", strings.Join(w.each(b.Ins, w.name), " "))
	}
	if len(b.Outs) > 0 {
		w.linef("  out %s", strings.Join(w.each(b.Outs, w.name), " "))
	}
	for _, g := range b.Guards {
		w.linef("  guard %s %s %s", w.name(g.Port), map[bool]string{true: "permit", false: "deny"}[g.Permit], w.match(g.Match))
	}
	for _, u := range b.Rules {
		w.linef("  rule %s%s match %s%s %s", w.number(u.Priority), w.from(u.From), w.match(u.Match), w.sets(u.Sets), w.to(u.To))
	}
	for _, p := range b.Owns {
		w.linef("  own %s/%s to %s", w.quad(p.Value), w.number(p.Len), w.name(p.To))
	}
	for _, p := range b.Routes {
		w.linef("  route %s/%s to %s", w.quad(p.Value), w.number(p.Len), w.name(p.To))
	}
}

func (w *printer) from(names []string) string {
	if len(names) == 0 {
		return ""
	}
	return " from " + strings.Join(w.each(names, w.name), " ")
}

func (w *printer) sets(sets []api.Set) string {
	var list []string
	for _, s := range sets {
		list = append(list, w.name(s.Field)+" = "+w.number(s.Value))
	}
	if len(list) == 0 {
		return ""
	}
	return " set " + strings.Join(list, ", ")
}

func (w *printer) to(names []string) string {
	if len(names) == 0 {
		return "drop"
	}
	return "to " + strings.Join(w.each(names, w.name), ", ")
}

func (w *printer) each(names []string, write func(string) string) []string {
	var list []string
	for _, name := range names {
		list = append(list, write(name))
	}
	return list
}

var (
	nameForm = regexp.MustCompile(`^[A-Za-z_][A-Za-z_0-9]{0,23}$`)
	portForm = regexp.MustCompile(`^([A-Za-z_][A-Za-z_0-9]{0,23})\.([A-Za-z_][A-Za-z_0-9]{0,23})$`)
)

func (w *printer) name(name string) string {
	w.wrong = w.wrong || !nameForm.MatchString(name) || isOneOf(reservedWords, name)
	return name
}

func (w *printer) port(name string) string {
	parts := portForm.FindStringSubmatch(name)
	w.wrong = w.wrong || parts == nil || isOneOf(reservedWords, parts[1]) || isOneOf(reservedWords, parts[2])
	return name
}

func (w *printer) match(e []api.Node) string {
	text, errno := expr.Print(e)
	w.wrong = w.wrong || errno != api.OK
	return text
}

func (w *printer) number(v int) string {
	if v >= 65536 {
		return w.quad(v)
	}
	w.wrong = w.wrong || v < 0
	return fmt.Sprint(v)
}

func (w *printer) quad(v int) string {
	w.wrong = w.wrong || v < 0 || v > 4294967295
	return fmt.Sprintf("%d.%d.%d.%d", v>>24&255, v>>16&255, v>>8&255, v&255)
}

// cloned: a value in memory of its own, lists without an element as nil.
func cloned[T any](v T) T {
	var out T
	cloneInto(reflect.ValueOf(&out).Elem(), reflect.ValueOf(v))
	return out
}

func cloneInto(into, from reflect.Value) {
	switch from.Kind() {
	case reflect.Struct:
		for n := range from.NumField() {
			cloneInto(into.Field(n), from.Field(n))
		}
	case reflect.Slice:
		for n := range from.Len() {
			element := reflect.New(from.Type().Elem()).Elem()
			cloneInto(element, from.Index(n))
			into.Set(reflect.Append(into, element))
		}
	default:
		into.Set(from)
	}
}

// equal: whether two values are the same in every part and order, nil lists and empty ones alike.
func equal[T any](a, b T) bool { return reflect.DeepEqual(cloned(a), cloned(b)) }

// anyOrder: the lists whose order says nothing, by the type that they are in.
var anyOrder = map[string]string{"Box": " Rules Owns Routes ", "Rule": " From ", "Config": " Links Slices ", "Line": "", "Slice": ""}

// tellSame: what Same is to answer: pairs are looked for one by one.
func tellSame(a, b reflect.Value) bool {
	switch a.Kind() {
	case reflect.Struct:
		for n := range a.NumField() {
			alike := tellSame
			if isOneOf(anyOrder[a.Type().Name()], a.Type().Field(n).Name) {
				alike = tellPaired
			}
			if !alike(a.Field(n), b.Field(n)) {
				return false
			}
		}
		return true
	case reflect.Slice:
		if a.Len() != b.Len() {
			return false
		}
		for n := range a.Len() {
			if !tellSame(a.Index(n), b.Index(n)) {
				return false
			}
		}
		return true
	}
	return a.Equal(b)
}

// tellPaired: whether two lists are the same in some order.
func tellPaired(a, b reflect.Value) bool {
	if a.Len() != b.Len() {
		return false
	}
	used := make([]bool, b.Len())
	for n := range a.Len() {
		m := 0
		for m < b.Len() && (used[m] || !tellSame(a.Index(n), b.Index(m))) {
			m++
		}
		if m == b.Len() {
			return false
		}
		used[m] = true
	}
	return true
}
