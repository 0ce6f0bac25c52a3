package keeper_test

// P20.4, P20.8, W6: nothing that is handed in is changed or kept, and nothing that is kept is handed out.

import (
	"bytes"
	"errors"
	"reflect"
	"slices"
	"testing"
	"unsafe"

	"reach/api"
	"reach/keeper"
)

// handed: a text over memory that can be written into.
func handed(text string) (string, []byte) {
	memory := []byte(text)
	return unsafe.String(unsafe.SliceData(memory), len(memory)), memory
}

func overwrite(memory []byte) {
	memory = memory[:cap(memory)]
	for n := range memory {
		memory[n] = '?'
	}
}

// spoil writes over all lists of a value, spare room too.
func spoil(v reflect.Value) {
	switch v.Kind() {
	case reflect.Struct:
		for n := range v.NumField() {
			spoil(v.Field(n))
		}
	case reflect.Slice:
		all := v.Slice(0, v.Cap())
		for n := range all.Len() {
			spoil(all.Index(n))
			all.Index(n).SetZero()
		}
	}
}

func TestNothingHandedInIsKept(t *testing.T) {
	text, memory := handed("# a comment\n" + smallText + "slice red A.a where any\n")
	k := opened(t, nil, text)
	overwrite(memory)
	text, memory = handed("# \nno reach A.a to A.c where b = 1 hops 2")
	must(t, k.Demand(text))
	overwrite(memory)
	for _, line := range []string{"at A rule 10 match b = 2 to c", "box Other"} {
		text, memory = handed(line)
		must(t, k.Stage(text))
		overwrite(memory)
	}
	must(t, k.Commit())
	first := smallText + "slice red A.a where any\n"
	check(t, "W6: Disk", k.Disk(), onDisk(t,
		record(api.RecordOpen, first), record(api.RecordDemand, "# \nno reach A.a to A.c where b = 1 hops 2"),
		record(api.RecordCommit, "29:at A rule 10 match b = 2 to c9:box Other")))
	must(t, k.Back(1))
	check(t, "W6: Config", k.Config(), first)
	check(t, "W6", stands(opened(t, k.Disk(), "")), stands(k))
}

// Also where the ledger that is handed in has room behind its end, with a record in it.
func TestTheDiskHandedInIsItsOwners(t *testing.T) {
	list := history(t)
	for number, m := range list[:len(list)-1] {
		all := bytes.Clone(list[len(list)-1].disk)
		was := bytes.Clone(all)
		disk := all[:len(m.disk)]
		k := opened(t, disk, "")
		check(t, "W6: what stands behind the end", k.Records(), number+1)
		if m.version == 1 {
			must(t, k.Stage("at A rule 9 match b = 2 drop"))
			must(t, k.Commit())
		}
		must(t, k.Back(2))
		must(t, k.Demand("no loop A.a where any hops 1"))
		check(t, "W6: the disk handed in is not changed", bytes.Equal(all, was), true)
		now := stands(k)
		overwrite(all)
		check(t, "W6: the disk handed in is not kept", stands(k), now)
		must(t, k.Back(2))
		check(t, "P20.8", bytes.HasPrefix(k.Disk(), m.disk), true)
		check(t, "W6", stands(opened(t, k.Disk(), "")), stands(k))
	}
	// Where nothing in it is whole, too.
	torn := bytes.Clone(list[0].disk)
	k := opened(t, torn[:9], smallText)
	overwrite(torn)
	check(t, "W6: Disk", k.Disk(), list[0].disk)
}

func TestNothingKeptIsHandedOut(t *testing.T) {
	k := opened(t, nil, smallText)
	for n := range 3 {
		want := stands(k)
		for range 2 {
			overwrite(k.Disk())
			check(t, "P20.4: Disk is new memory each time", stands(k), want)
			text := k.Config()
			overwrite(unsafe.Slice(unsafe.StringData(text), len(text)))
			check(t, "W6: Config", stands(k), want)
		}
		first, second := k.Disk(), k.Disk()
		overwrite(first)
		check(t, "P20.4: two of them", bytes.Equal(second, k.Disk()), true)
		must(t, k.Stage([]string{"box B", "box C", "box D"}[n]))
		must(t, k.Commit())
		check(t, "P20.4: what is written later", len(second) < len(k.Disk()) && bytes.HasPrefix(k.Disk(), second), true)
		r := k.Ask("cover hops 3")
		told := resulted(r)
		spoil(reflect.ValueOf(&r).Elem())
		check(t, "W6: Ask", resulted(k.Ask("cover hops 3")), told)
	}
	check(t, "W6", stands(opened(t, k.Disk(), "")), stands(k))
}

func TestFaultsAreNew(t *testing.T) {
	k := opened(t, nil, smallText)
	must(t, k.Stage(filled("at A rule 9 match b = 2 drop", api.MaxText)))
	full := opened(t, nil, smallText)
	must(t, full.Demand("no cover hops 1"))
	must(t, full.Stage("at A rule 2 match any drop"))
	for n, refusal := range []func() error{
		k.Commit, full.Commit, new(keeper.Keeper).Commit,
		func() error { return k.Back(7) },
		func() error { return k.Demand(filled("no cover hops 1", api.MaxText+1)) },
		func() error { return k.Demand("bogus") },
		func() error { return k.Demand("some cover hops 1") },
		func() error { return k.Stage("bogus") },
		func() error { return (*keeper.Keeper)(nil).Stage("box B") },
	} {
		err := refusal()
		want := outcome(t, err)
		first := faultIn(t, err)
		lines := slices.Clone(first.Reply.Lines)
		spoil(reflect.ValueOf(&first.Reply).Elem())
		*first = api.Fault{Why: errors.New("spoilt"), Code: 99, Text: 9, Line: 9, Demand: 9}
		again := refusal()
		check(t, "P18.1: once more", outcome(t, again), want)
		if second := faultIn(t, again); first == second || !slices.Equal(second.Reply.Lines, lines) {
			t.Errorf("P18.1: refusal %d: %s: the same fault", n, want)
		}
	}
}
