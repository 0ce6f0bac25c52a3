package gate_test

// P18.2 to P18.12, P0.11: long runs of calls, against a second telling of the chapter.

import (
	"fmt"
	"slices"
	"strings"
	"testing"

	"reach/api"
	"reach/conf"
	"reach/gate"
	"reach/lower"
	"reach/model"
	"reach/run"
	"reach/scan"
)

// telling is what a gate is to hold: the networks themselves, and what was said.
type telling struct {
	versions []api.Config
	texts    []string // of the versions
	staged   []string
	demands  []string
}

func with[T any](list []T, e T) []T { return append(slices.Clone(list), e) }

func toldOpen(config string) (telling, string) {
	c, errno, line := conf.Parse(config)
	if errno != api.OK {
		return telling{}, refused(api.WhyParse, errno, 1, line, -1, api.Reply{})
	}
	return telling{versions: []api.Config{c}, texts: []string{textOf(c)}}, mayBeInForce(c)
}

// mayBeInForce: "ok", or why not.
func mayBeInForce(c api.Config) string {
	if errno, _ := model.Check(c); errno != api.OK {
		return refused(api.WhyIll, errno, 1, 0, -1, api.Reply{})
	}
	if _, errno := conf.Print(c); errno != api.OK {
		return refused(api.WhyIll, api.ErrLong, 1, 0, -1, api.Reply{})
	}
	if _, errno := lower.Lower(c); errno != api.OK {
		return refused(api.WhyBudget, api.ErrBudget, 0, 0, -1, api.Reply{})
	}
	return "ok"
}

func textOf(c api.Config) string {
	text, _ := conf.Print(c)
	return text
}

// parted: a demand's first word and its query, put together again from its tokens.
func parted(line string) (word, query string) {
	tokens, _, _, _ := scan.Scan(line)
	query, _ = scan.Print(tokens[1:])
	return tokens[0].Text, query
}

// results has what Run answered of two texts: the same is asked very often here.
var results = map[[2]string]api.Result{}

func answered(text, query string) api.Result {
	key := [2]string{text, query}
	r, ok := results[key]
	if !ok {
		r = run.Run(text, query)
		results[key] = r
	}
	return r
}

// holds: "ok", or why the demand of that number does not hold for a text.
func holds(text, line string, number int) string {
	word, query := parted(line)
	r := answered(text, query)
	switch {
	case r.Kind == api.ResultIll:
		return refused(api.WhyIll, r.Code, 2, 0, number, api.Reply{})
	case r.Kind == api.ResultBudget:
		return refused(api.WhyBudget, api.ErrBudget, 0, 0, number, api.Reply{})
	case r.Replies[0].Found != (word == "some"):
		return refused(api.WhyBroken, api.ErrBroken, 0, 0, number, r.Replies[0])
	}
	return "ok"
}

func (m telling) keeps(text string) string {
	for number, line := range m.demands {
		if told := holds(text, line, number); told != "ok" {
			return told
		}
	}
	return "ok"
}

func (m telling) inForce() api.Config { return m.versions[len(m.versions)-1] }

func (m telling) text() string { return m.texts[len(m.texts)-1] }

func (m telling) draft() api.Config {
	c := m.inForce()
	for _, line := range m.staged {
		c, _ = conf.Edit(c, line)
	}
	return c
}

func state(code api.Errno) string { return refused(api.WhyState, code, 0, 0, -1, api.Reply{}) }

// notDemand: whether P18.6's second point applies.
func notDemand(tokens []api.Token) bool {
	if len(tokens) == 0 || tokens[0].Kind != api.TokName || tokens[0].Text != "no" && tokens[0].Text != "some" {
		return true
	}
	if tokens[1].Kind == api.TokName && tokens[1].Text == "budget" {
		return true
	}
	return slices.ContainsFunc(tokens, func(t api.Token) bool { return t.Line != tokens[0].Line })
}

func (m telling) demand(line string) (telling, string) {
	tokens, errno, _, _ := scan.Scan(line)
	if errno == api.OK && notDemand(tokens) {
		errno = api.ErrDemand
	}
	if errno == api.OK {
		_, query := parted(line)
		_, _, errno, _ = run.Parse(query)
	}
	if errno != api.OK {
		return m, refused(api.WhyParse, errno, 2, 0, -1, api.Reply{})
	}
	if len(m.demands) == 8 {
		return m, state(api.ErrFull)
	}
	told := holds(m.text(), line, len(m.demands))
	if told == "ok" {
		m.demands = with(m.demands, line)
	}
	return m, told
}

func (m telling) stage(line string) (telling, string) {
	_, errno := conf.Edit(m.draft(), line)
	switch {
	case errno == api.ErrGone || errno == api.ErrThere:
		return m, state(errno)
	case errno != api.OK:
		return m, refused(api.WhyParse, errno, 0, 0, -1, api.Reply{})
	case len(m.staged) == 32:
		return m, state(api.ErrFull)
	}
	m.staged = with(m.staged, line)
	return m, "ok"
}

func (m telling) commit() (telling, string) {
	if len(m.staged) == 0 {
		return m, state(api.ErrNothing)
	}
	if len(m.versions) == 64 {
		return m, state(api.ErrFull)
	}
	c := m.draft()
	if told := mayBeInForce(c); told != "ok" {
		return m, told
	}
	return m.next(c)
}

func (m telling) back(version int) (telling, string) {
	if version < 1 || version > len(m.versions) {
		return m, state(api.ErrVersion)
	}
	if len(m.versions) == 64 {
		return m, state(api.ErrFull)
	}
	return m.next(m.versions[version-1])
}

func (m telling) next(c api.Config) (telling, string) {
	text := textOf(c)
	told := m.keeps(text)
	if told == "ok" {
		m.versions, m.texts, m.staged = with(m.versions, c), with(m.texts, text), nil
	}
	return m, told
}

// after: what is held behind a deed, and what it is to answer.
func (m telling) after(d deed) (telling, string) {
	switch d.call {
	case "Stage":
		return m.stage(d.line)
	case "Demand":
		return m.demand(d.line)
	case "Commit":
		return m.commit()
	case "Back":
		return m.back(d.version)
	case "Undo":
		count := len(m.staged)
		m.staged = nil
		return m, fmt.Sprint(count)
	case "Version":
		return m, fmt.Sprint(len(m.versions))
	case "Config":
		return m, m.text()
	}
	return m, resulted(answered(m.text(), d.line))
}

// trial is a gate and what it is to hold, with all that was done.
type trial struct {
	gate *gate.Gate
	told telling
	log  []string
}

func newTrial(t *testing.T, config string) *trial {
	t.Helper()
	m, told := toldOpen(config)
	check(t, "P18.5", told, "ok")
	r := &trial{opened(t, config), m, []string{config}}
	r.checkForce(t)
	return r
}

func (r *trial) fail(t *testing.T, promise string, got, want any) {
	t.Helper()
	t.Fatalf("%s: behind\n%s\n%v, want %v", promise, strings.Join(r.log, "\n"), got, want)
}

// do does a deed, and holds what comes of it against what is told.
func (r *trial) do(t *testing.T, d deed) string {
	t.Helper()
	was := len(r.told.versions) + len(r.told.demands)
	got, want := d.on(t, r.gate), ""
	r.log = append(r.log, fmt.Sprintf("%s %q %d: %s", d.call, d.line, d.version, got))
	if r.told, want = r.told.after(d); got != want {
		r.fail(t, "P18.6 to P18.11", got, want)
	}
	if r.gate.Version() != len(r.told.versions) || r.gate.Config() != r.told.text() {
		r.fail(t, "P18.11", r.gate.Version(), len(r.told.versions))
	}
	if was != len(r.told.versions)+len(r.told.demands) {
		r.checkForce(t)
	}
	return got
}

// checkForce: what is in force is what it is to be, and it is well-formed, and every demand holds.
func (r *trial) checkForce(t *testing.T) {
	t.Helper()
	text := r.gate.Config()
	c, errno, _ := conf.Parse(text)
	if errno != api.OK || fmt.Sprint(c) != fmt.Sprint(r.told.inForce()) {
		r.fail(t, "P18.12", c, r.told.inForce())
	}
	if told := mayBeInForce(c); told != "ok" {
		r.fail(t, "P0.11: in force", told, "ok")
	}
	for number, line := range r.told.demands {
		if told := holds(text, line, number); told != "ok" {
			r.fail(t, "P0.11: demanded", told, "ok")
		}
	}
}

// Of texts that are spoilt somewhere, too.
func TestOpenByASecondTelling(t *testing.T) {
	s := source(180)
	times := map[string]int{}
	for range 600 {
		config := s.network()
		switch s.below(3) {
		case 0:
			config = s.mutilated(config)
		case 1:
			config = s.otherLines(config)
		}
		g, err := gate.Open(config)
		m, want := toldOpen(config)
		got := outcome(t, err)
		if got != want || (g == nil) != (err != nil) {
			t.Fatalf("P18.5: %q: %s, %v; want %s", config, got, g, want)
		}
		if err == nil && (g.Version() != 1 || g.Config() != m.text() || g.Undo() != 0 || outcome(t, g.Commit()) != state(api.ErrNothing)) {
			t.Fatalf("P18.5: %q: version %d, %q", config, g.Version(), g.Config())
		}
		word, _, _ := strings.Cut(got, " ")
		times[word]++
	}
	if times["ok"] < 100 || times["parse"] < 50 || times["ill"] < 50 {
		t.Errorf("the trial shows less than it should: %v", times)
	}
}

func TestRunsOfCalls(t *testing.T) {
	s := source(181)
	times := map[string]int{}
	for range 80 {
		r := newTrial(t, s.network())
		do := func(d deed) {
			word, _, _ := strings.Cut(r.do(t, d), " ")
			times[d.call+" "+word]++
		}
		for range 60 {
			do(s.deed(r.told.text(), len(r.told.versions)))
		}
		for version := range r.told.versions { // All that were in force are as they were.
			do(deed{call: "Back", version: version + 1})
		}
	}
	for _, kind := range []string{"Stage ok", "Stage state", "Stage parse", "Commit ok", "Commit ill", "Commit broken", "Commit state", "Demand ok", "Demand parse", "Demand broken", "Demand ill", "Back ok", "Back broken", "Back state", "Undo 0", "Undo 1", "Undo 2"} {
		if times[kind] < 10 {
			t.Errorf("the trial shows less than it should: %s %d times", kind, times[kind])
		}
	}
}
