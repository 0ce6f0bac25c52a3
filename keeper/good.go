package keeper

import (
	"strconv"

	"reach/api"
	"reach/gate"
	"reach/ledger"
)

// deed is what a record stands for. It gives up where the record cannot have come about.
type deed interface {
	check()                          // whether the record may stand at its place
	redo(from *gate.Gate) *gate.Gate // the gate behind the deed, which is the one ahead of it, but where it is opened
}

// entry is what the deeds of all kinds have in common: their record, what is asked of each of them, and how it is given up.
type entry struct {
	api.Record
}

func (e entry) check() { e.need((e.Kind == api.RecordOpen) == (e.Seq == 1)) }

// need gives the ledger up at this record, if something does not hold.
func (e entry) need(holds bool) {
	if !holds {
		f := fault(api.WhyIll, api.ErrLedger)
		f.Line = e.Seq
		panic(f)
	}
}

// take gives the ledger up at this record, if the gate refuses what it tells of.
func (e entry) take(err error) { e.need(err == nil) }

type opening struct{ entry }

func (o opening) redo(*gate.Gate) *gate.Gate {
	g, err := gate.Open(o.Text)
	o.take(err)
	o.need(g.Config() == o.Text)
	return g
}

type commit struct{ entry }

func (c commit) redo(g *gate.Gate) *gate.Gate {
	lines, errno := ledger.Unpack(c.Text)
	c.need(errno == api.OK && len(lines) > 0)
	for _, line := range lines {
		c.take(g.Stage(line))
	}
	c.take(g.Commit())
	return g
}

type demand struct{ entry }

func (d demand) redo(g *gate.Gate) *gate.Gate {
	d.take(g.Demand(d.Text))
	return g
}

type back struct{ entry }

func (b back) redo(g *gate.Gate) *gate.Gate {
	version, err := strconv.Atoi(b.Text)
	b.need(err == nil && strconv.Itoa(version) == b.Text) // Atoi reads numbers that no record has: 01, +1.
	b.take(g.Back(version))
	return g
}

// deedOf is what a record stands for. The ledger tells records of these four kinds alone.
func deedOf(r api.Record) deed {
	e := entry{r}
	switch r.Kind {
	case api.RecordOpen:
		return opening{e}
	case api.RecordCommit:
		return commit{e}
	case api.RecordDemand:
		return demand{e}
	}
	return back{e}
}

// madeGood is the gate that a ledger's records tell of, or the first record that cannot have come about.
func madeGood(records []api.Record) (g *gate.Gate, err error) {
	defer func() {
		if f := caught(recover()); f != nil {
			g, err = nil, f
		}
	}()
	for _, r := range records {
		d := deedOf(r)
		d.check()
		g = d.redo(g)
	}
	return g, nil
}
