package gate_test

// P18.1, W6: faults are new each time; nothing that is handed in is kept, and nothing that is kept is handed out.

import (
	"errors"
	"reflect"
	"slices"
	"testing"
	"unsafe"

	"reach/api"
	"reach/gate"
	"reach/run"
)

// spoil writes over all lists of a value, spare room too.
func spoil(v reflect.Value) {
	switch v.Kind() {
	case reflect.Struct:
		for n := range v.NumField() {
			spoil(v.Field(n))
		}
	case reflect.Slice:
		all := v.Slice(0, v.Cap())
		for n := range all.Len() {
			spoil(all.Index(n))
			all.Index(n).SetZero()
		}
	}
}

// refusals: calls that a gate of the small text refuses, by each reason there is.
func refusals() []func(g *gate.Gate) error {
	opens := func(config string) func(*gate.Gate) error {
		return func(*gate.Gate) error {
			_, err := gate.Open(config)
			return err
		}
	}
	demands := func(line string) func(*gate.Gate) error {
		return func(g *gate.Gate) error { return g.Demand(line) }
	}
	stages := func(line string) func(*gate.Gate) error {
		return func(g *gate.Gate) error { return g.Stage(line) }
	}
	return []func(g *gate.Gate) error{
		opens("bogus"), opens(""), opens(wide + tooWide),
		demands("$"), demands("cover"), demands("no bogus"), demands("no cover hops 1\nx"), demands("no loop A.z where any hops 1"),
		demands("some cover hops 1"), demands("no trace A.a hops 1"), demands("no reach A.a to A.d where any hops 1"),
		stages("box A"), stages("no box Z"), stages("bogus"),
		(*gate.Gate).Commit,
		func(g *gate.Gate) error { return g.Back(7) },
		func(*gate.Gate) error { return new(gate.Gate).Commit() },
		func(*gate.Gate) error { return (*gate.Gate)(nil).Stage("box A") },
	}
}

func TestFaultsAreNew(t *testing.T) {
	g := opened(t, smallText)
	for n, refusal := range refusals() {
		err := refusal(g)
		want := outcome(t, err)
		first := faultIn(t, err)
		spoil(reflect.ValueOf(&first.Reply).Elem())
		*first = api.Fault{Why: errors.New("spoilt"), Code: 99, Text: 9, Line: 9, Demand: 9}
		again := refusal(g)
		check(t, "P18.1: once more", outcome(t, again), want)
		if second := faultIn(t, again); first == second || want == "ok" {
			t.Errorf("P18.1: refusal %d: %s: the same fault", n, want)
		}
	}
}

// A commit that is refused tells a reply of its own each time.
func TestRepliesInFaultsAreNew(t *testing.T) {
	g := opened(t, smallText)
	check(t, "P18.6", outcome(t, g.Demand("no trace A.a set b = 3 hops 0")), "ok")
	check(t, "P18.6", outcome(t, g.Demand("no cover hops 1")), "ok")
	check(t, "P18.7", outcome(t, g.Stage("at A rule 2 match any drop")), "ok")
	err := g.Commit()
	want := outcome(t, err)
	check(t, "P18.8", want, `broken 180 0 0 1; 8 true "" "" [] [] "" ["test A.a 00 meets A rule 5" "test A.a 01 meets A rule 4" "dead A rule 2 hidden"] false`)
	other := slices.Clone(faultIn(t, err).Reply.Lines)
	spoil(reflect.ValueOf(&faultIn(t, err).Reply).Elem())
	again := g.Commit()
	check(t, "P18.1", outcome(t, again), want)
	check(t, "W6", faultIn(t, again).Reply.Lines, other)
}

// handed: a text over memory that can be written into.
func handed(text string) (string, []byte) {
	memory := []byte(text)
	return unsafe.String(unsafe.SliceData(memory), len(memory)), memory
}

func overwrite(memory []byte) {
	for n := range memory {
		memory[n] = '?'
	}
}

func TestNothingHandedInIsKept(t *testing.T) {
	text, memory := handed("# a comment\n" + smallText + "slice red A.a where any\n")
	g := opened(t, text)
	overwrite(memory)
	text, memory = handed("# \nno reach A.a to A.c where b = 1 hops 2")
	check(t, "P18.6", outcome(t, g.Demand(text)), "ok")
	overwrite(memory)
	text, memory = handed("at A rule 10 match b = 1 to c")
	check(t, "P18.7", outcome(t, g.Stage(text)), "ok")
	overwrite(memory)
	check(t, "P18.7", outcome(t, g.Stage("box Other")), "ok")
	check(t, "P18.8", outcome(t, g.Commit()), `broken 180 0 0 0; 1 true "01" "01" ["A.a" "A.c"] ["A rule 10"] "01" [] false`)
	check(t, "P18.7", outcome(t, g.Stage("no at A rule 10")), "ok")
	check(t, "P18.8", outcome(t, g.Commit()), "ok")
	check(t, "P18.11", g.Config(), smallText+"box Other\nslice red A.a where any\n")
	check(t, "P18.10", outcome(t, g.Back(1)), "ok")
	check(t, "P18.11", g.Config(), smallText+"slice red A.a where any\n")
}

func TestNothingKeptIsHandedOut(t *testing.T) {
	g := opened(t, smallText)
	for range 2 {
		text := g.Config()
		check(t, "P18.11", text, smallText)
		overwrite(unsafe.Slice(unsafe.StringData(text), len(text)))
	}
	check(t, "P18.7", outcome(t, g.Stage("box B")), "ok")
	check(t, "P18.8", outcome(t, g.Commit()), "ok")
	check(t, "P18.11", g.Config(), smallText+"box B\n")
	check(t, "P18.10", outcome(t, g.Back(1)), "ok")
	check(t, "P18.11", g.Config(), smallText)
	r := g.Ask("cover hops 3")
	want := resulted(r)
	spoil(reflect.ValueOf(&r).Elem())
	check(t, "W6: Ask", resulted(g.Ask("cover hops 3")), want)
	check(t, "P18.11: Ask", want, resulted(run.Run(smallText, "cover hops 3")))
}
