package run_test

// Networks and queries, as texts, by a source of mixed numbers.

import (
	"fmt"
	"slices"
	"strings"
	"testing"

	"reach/api"
	"reach/conf"
	"reach/expr"
	"reach/model"
)

type source uint64

func (s *source) below(n int) int {
	*s = *s*6364136223846793005 + 1442695040888963407
	return int(uint64(*s) >> 33 % uint64(n))
}

func (s *source) oneOf(words ...string) string { return words[s.below(len(words))] }

// pick: up to most of a list's elements, each once, in a mixed order.
func pick[T any](s *source, list []T, most int) []T {
	out := slices.Clone(list)
	for n := range out {
		to := n + s.below(len(out)-n)
		out[n], out[to] = out[to], out[n]
	}
	return out[:s.below(min(most, len(out))+1)]
}

func named(like string, count int) []string {
	var list []string
	for n := range count {
		list = append(list, fmt.Sprint(like, n))
	}
	return list
}

// leaf: a test of one field, or any, or none.
func (s *source) leaf(fields []api.Field) string {
	f := fields[s.below(len(fields))]
	value := func() int { return s.below(1 << f.Bits) }
	switch s.below(8) {
	case 0:
		return "any"
	case 1:
		return s.oneOf("none", "any")
	case 2:
		low := value()
		return fmt.Sprint(f.Name, s.oneOf(" = ", " != "), low, "..", low+s.below(1<<f.Bits-low))
	case 3:
		length := s.below(f.Bits + 1)
		return fmt.Sprint(f.Name, s.oneOf(" = ", " != "), value()>>(f.Bits-length)<<(f.Bits-length), "/", length)
	case 4:
		pattern := ""
		for range f.Bits {
			pattern += s.oneOf("0", "1", "x")
		}
		return fmt.Sprint(f.Name, s.oneOf(" = %", " != %"), pattern)
	}
	return fmt.Sprint(f.Name, " ", s.oneOf("=", "!=", "<", "<=", ">", ">="), " ", value())
}

// match: an expression of up to so many tests.
func (s *source) match(fields []api.Field, tests int) string {
	text := s.leaf(fields)
	for range s.below(tests) {
		if s.below(4) == 0 {
			text = "!(" + text + ")"
		}
		text += s.oneOf(" & ", " | ") + s.leaf(fields)
	}
	return text
}

// box: the lines of a box with up to so many ports.
func (s *source) box(c api.Config, name string, ports int) string {
	all := named("p", 1+s.below(ports))
	cut := s.below(len(all) + 1)
	if s.below(4) > 0 { // Most have both kinds of ports.
		cut = (len(all) + 1) / 2
	}
	ins, outs := all[:cut], all[cut:]
	text := fmt.Sprintln("box", name)
	if len(ins) > 0 {
		text += fmt.Sprintln("in", strings.Join(ins, " "))
	}
	if len(outs) > 0 {
		text += fmt.Sprintln("out", strings.Join(outs, " "))
	}
	for range s.below(2) * s.below(3) {
		text += fmt.Sprintln("guard", s.oneOf(all...), s.oneOf("permit", "deny"), s.match(c.Fields, 2))
	}
	for priority := range s.below(4) {
		text += s.rule(c, priority*7, ins, outs)
	}
	for range s.below(3) * len(c.Routing) {
		if len(outs) == 0 || s.below(3) == 0 {
			break
		}
		bits := c.Fields[0].Bits
		length := s.below(bits + 1)
		line := fmt.Sprintf("%s %d/%d to ", s.oneOf("own", "route"), s.below(1<<bits)>>(bits-length)<<(bits-length), length)
		if !strings.Contains(text, line) {
			text += line + s.oneOf(outs...) + "\n"
		}
	}
	return text
}

func (s *source) rule(c api.Config, priority int, ins, outs []string) string {
	line := fmt.Sprint("rule ", priority)
	if from := pick(s, ins, 2); len(from) > 0 && s.below(2) == 0 {
		line += " from " + strings.Join(from, " ")
	}
	line += " match " + s.match(c.Fields, 2)
	if sets := s.sets(c.Fields); s.below(2) == 0 && sets != "" {
		line += " set " + sets
	}
	if to := pick(s, outs, api.MaxOuts); len(to) > 0 {
		return line + " to " + strings.Join(to, ", ") + "\n"
	}
	return line + " drop\n"
}

// sets: of some fields, or none.
func (s *source) sets(fields []api.Field) string {
	var list []string
	for _, f := range pick(s, fields, len(fields)) {
		list = append(list, fmt.Sprint(f.Name, " = ", s.below(1<<f.Bits)))
	}
	return strings.Join(list, ", ")
}

// network: a small well-formed one: all of its headers can be looked at.
func (s *source) network(t *testing.T) api.Config {
	t.Helper()
	var c api.Config
	text := "header"
	for n := range 1 + s.below(3) {
		c.Fields = append(c.Fields, api.Field{Name: fmt.Sprint("f", n), Bits: 1 + s.below(2)})
		text += fmt.Sprint(" f", n, ":", c.Fields[n].Bits)
	}
	text += "\n"
	if s.below(2) == 0 {
		c.Routing = c.Fields[0].Name
		text += "routing " + c.Routing + s.oneOf("", " slim") + "\n"
	}
	for n := range 1 + s.below(4) {
		text += s.box(c, fmt.Sprint("B", n), 7)
	}
	c, errno, line := conf.Parse(text)
	if errno != api.OK {
		t.Fatalf("Parse: %d in line %d of\n%s", errno, line, text)
	}
	return s.linked(t, c)
}

// linked: the network with links and slices.
func (s *source) linked(t *testing.T, c api.Config) api.Config {
	t.Helper()
	ins, outs := portsOf(c)
	for _, from := range outs {
		if len(ins) > 0 && s.below(3) > 0 {
			c.Links = append(c.Links, api.Link{From: from, To: s.oneOf(ins...), Cost: 1 + s.below(3)})
		}
	}
	for _, name := range []string{"red", "blue", "green"}[:s.below(4)] {
		where, _, _ := expr.Parse(s.match(c.Fields, 2))
		c.Slices = append(c.Slices, api.Slice{Name: name, Ports: pick(s, append(ins, outs...), 3), Where: where})
	}
	if errno, told := model.Check(c); errno != api.OK {
		t.Fatalf("%d, %s of %+v", errno, told, c)
	}
	return c
}

// portsOf: the full names of the in-ports and of the out-ports.
func portsOf(c api.Config) (ins, outs []string) {
	for _, b := range c.Boxes {
		for _, p := range b.Ins {
			ins = append(ins, b.Name+"."+p)
		}
		for _, p := range b.Outs {
			outs = append(outs, b.Name+"."+p)
		}
	}
	return ins, outs
}

// printed: the text of a network.
func printed(t *testing.T, c api.Config) string {
	t.Helper()
	text, errno := conf.Print(c)
	if errno != api.OK {
		t.Fatalf("Print: %d of %+v", errno, c)
	}
	return text
}

// pattern: one of paths in this network.
func (s *source) pattern(c api.Config) string {
	ins, outs := portsOf(c)
	one := func() string {
		switch s.below(4) {
		case 0:
			return "."
		case 1:
			return s.oneOf("", "!") + c.Boxes[s.below(len(c.Boxes))].Name
		}
		return s.oneOf("", "!") + s.oneOf(append(ins, outs...)...)
	}
	text := s.oneOf(".*", one())
	for range s.below(4) {
		text += " " + s.oneOf(".*", ".*", one(), "("+one()+"|"+one()+")"+s.oneOf("", "*", "?"))
	}
	return text
}

// asked: a query of that kind which this network has all for; none, if there is none such.
func (s *source) asked(c api.Config, kind, hops int) string {
	ins, outs := portsOf(c)
	all := append(ins, outs...)
	from, to := s.oneOf(all...), s.oneOf(all...)
	if len(ins) > 0 && s.below(5) > 0 { // Most packets are put in at an in-port.
		from = s.oneOf(ins...)
	}
	where := "where " + s.match(c.Fields, 2)
	along := `along "` + s.pattern(c) + `"`
	switch kind {
	case api.AskReach, api.AskMissed:
		return fmt.Sprintln(wordOf(kind), from, "to", to, where, "hops", hops)
	case api.AskLoop, api.AskLost:
		return fmt.Sprintln(wordOf(kind), from, where, "hops", hops)
	case api.AskIsolate:
		if len(c.Slices) == 0 {
			return ""
		}
		name := func() string { return c.Slices[s.below(len(c.Slices))].Name }
		return fmt.Sprintln("isolate", name(), "from", name(), "hops", hops)
	case api.AskPath:
		return fmt.Sprintln("path", from, where, along, "hops", hops)
	case api.AskAvoid:
		return fmt.Sprintln("avoid", from, "to", to, where, along, "hops", hops)
	case api.AskCover:
		return fmt.Sprintln("cover hops", hops)
	}
	if sets := s.sets(c.Fields); sets != "" {
		return fmt.Sprintln("trace", from, "set", sets, "hops", hops)
	}
	return fmt.Sprintln("trace", from, "hops", hops)
}

func wordOf(kind int) string {
	return strings.Fields("reply reach missed loop lost isolate path avoid cover trace")[kind]
}

// queries: up to eight of them.
func (s *source) queries(c api.Config) string {
	text := ""
	for range 1 + s.below(8) {
		kind, hops := 1+s.below(9), s.below(7)
		if kind == api.AskTrace && s.below(4) == 0 {
			hops = api.MaxHops
		}
		text += s.asked(c, kind, hops)
	}
	if text == "" {
		text = "cover hops 2\n"
	}
	if s.below(3) == 0 {
		text = fmt.Sprintln("budget", 1+s.below(40)) + text
	}
	return text
}

func TestTheSourceMakesNetworks(t *testing.T) {
	s := source(1)
	links, slices, routes := 0, 0, 0
	for range 300 {
		c := s.network(t)
		links += len(c.Links)
		slices += len(c.Slices)
		for _, b := range c.Boxes {
			routes += len(b.Owns) + len(b.Routes)
		}
	}
	if links < 300 || slices < 100 || routes < 100 {
		t.Errorf("the trial shows less than it should: %d, %d, %d", links, slices, routes)
	}
}
