package gate

import (
	"strings"

	"reach/api"
	"reach/conf"
	"reach/lower"
	"reach/model"
)

// held is what a gate holds between two calls. A call makes another one of it, and never writes into its lists.
type held struct {
	versions []string // their texts, which say all of a network; the last one is in force
	staged   []string // the lines of the changes
	demands  []demand
}

// opened is what a gate holds at its beginning.
func opened(config string) held {
	c, errno, line := conf.Parse(config)
	if errno != api.OK {
		f := fault(api.WhyParse, errno, ofConfig)
		f.Line = line
		panic(f)
	}
	return held{versions: []string{textOf(c)}}
}

// textOf is the text of a network that may be in force.
func textOf(c api.Config) string {
	errno, _ := model.Check(c)
	refuse(api.WhyIll, errno, ofConfig)
	text, errno := conf.Print(c)
	refuse(api.WhyIll, errno, ofConfig)
	_, errno = lower.Lower(c)
	refuse(api.WhyBudget, errno, ofNeither)
	return text
}

func (h held) isNothing() bool { return len(h.versions) == 0 }

// inForce is the text of what is in force.
func (h held) inForce() string {
	if h.isNothing() {
		return ""
	}
	return h.versions[len(h.versions)-1]
}

// lent is the same with lists that have no room behind their ends: whoever appends to one of them does not write into the gate's own.
func (h held) lent() held { return held{closed(h.versions), closed(h.staged), closed(h.demands)} }

func closed[T any](list []T) []T { return list[:len(list):len(list)] }

// draft is the network in force with all that is staged. No line is refused here: each was taken behind those ahead of it.
func (h held) draft() api.Config {
	c, _, _ := conf.Parse(h.inForce())
	for _, line := range h.staged {
		c, _ = conf.Edit(c, line)
	}
	return c
}

func (h held) withDemand(line string) held {
	d := readDemand(line)
	refuseFull(len(h.demands), api.MaxDemands)
	d.hold(h.inForce(), len(h.demands))
	h.demands = append(h.demands, d)
	return h
}

func (h held) withChange(line string) held {
	_, errno := conf.Edit(h.draft(), line)
	if errno == api.ErrGone || errno == api.ErrThere {
		panic(fault(api.WhyState, errno, ofNeither))
	}
	refuse(api.WhyParse, errno, ofNeither)
	refuseFull(len(h.staged), api.MaxStaged)
	h.staged = append(h.staged, strings.Clone(line))
	return h
}

func (h held) undone() held {
	h.staged = nil
	return h
}

func (h held) committed() held {
	if len(h.staged) == 0 {
		panic(nothing())
	}
	refuseFull(len(h.versions), api.MaxVersions)
	return h.withVersion(textOf(h.draft()))
}

func (h held) backAt(version int) held {
	if version < 1 || version > len(h.versions) {
		panic(fault(api.WhyState, api.ErrVersion, ofNeither))
	}
	refuseFull(len(h.versions), api.MaxVersions)
	return h.withVersion(h.versions[version-1])
}

// withVersion puts a text into force, if it keeps the demands.
func (h held) withVersion(text string) held {
	for number, d := range h.demands {
		d.hold(text, number)
	}
	h.versions = append(h.versions, text)
	return h.undone()
}
