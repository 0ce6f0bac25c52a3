package run

import (
	"slices"
	"strings"

	"reach/api"
	"reach/cover"
	"reach/expr"
	"reach/field"
	"reach/model"
	"reach/query"
	"reach/step"
	"reach/trail"
)

// question is a query that can be put to a network.
type question interface {
	ask(n network) api.Reply
}

// journey is a query about what sets out from a port with the headers of an expression.
type journey struct {
	api.Ask
	answer func(errand) (api.Answer, api.Errno)
}

func (j journey) ask(n network) api.Reply {
	where, errno := expr.Space(n.config.Fields, j.Where)
	fit(errno)
	a, errno := j.answer(errand{n.net, n.port(j.From), n.port(j.To), where.Text(), j.Along, j.Hops, n.budget})
	fit(errno)
	return n.told(j.Kind, a)
}

// errand is a journey in numbers. What a query does not have none of its calls looks at.
type errand struct {
	net          api.Net
	from, to     int
	where, along string
	hops, budget int
}

func (e errand) reach() (api.Answer, api.Errno) {
	return query.Reach(e.net, e.from, e.to, e.where, e.hops, e.budget)
}

func (e errand) missed() (api.Answer, api.Errno) {
	return query.Missed(e.net, e.from, e.to, e.where, e.hops, e.budget)
}

func (e errand) loop() (api.Answer, api.Errno) {
	return query.Loop(e.net, e.from, e.where, e.hops, e.budget)
}

func (e errand) lost() (api.Answer, api.Errno) {
	return query.Lost(e.net, e.from, e.where, e.hops, e.budget)
}

func (e errand) path() (api.Answer, api.Errno) {
	return trail.Find(e.net, e.from, e.where, e.along, e.hops, e.budget)
}

func (e errand) avoid() (api.Answer, api.Errno) {
	return trail.Avoid(e.net, e.from, e.to, e.where, e.along, e.hops, e.budget)
}

// parting is the query whether two slices are kept apart.
type parting struct{ api.Ask }

func (p parting) ask(n network) api.Reply {
	from, errno := model.Zone(n.config, p.From)
	fit(errno)
	to, errno := model.Zone(n.config, p.To)
	fit(errno)
	a, errno := query.Isolate(n.net, from, to, p.Hops, n.budget)
	fit(errno)
	return n.told(p.Kind, a)
}

// covering is the query for test packets.
type covering struct{ api.Ask }

func (v covering) ask(n network) api.Reply {
	doors, errno := cover.Doors(n.net)
	fit(errno)
	c, errno := cover.Cover(n.net, doors, v.Hops, n.budget)
	fit(errno)
	reply := api.Reply{Kind: v.Kind, Found: len(c.Dead) > 0}
	for _, p := range c.Packets {
		met := strings.Join(n.entryNames(p.Hits), ", ")
		reply.Lines = append(reply.Lines, strings.Join([]string{"test", n.net.Ports[p.Port].Name, p.Header, "meets", met}, " "))
	}
	for _, d := range c.Dead {
		reply.Lines = append(reply.Lines, strings.Join([]string{"dead", n.entries[d.Entry], reasons[d.Why]}, " "))
	}
	return reply
}

// Why an entry is dead.
var reasons = [...]string{api.DeadEmpty: "empty", api.DeadHidden: "hidden", api.DeadUnmet: "unmet"}

// tracing is the query for the paths of one packet.
type tracing struct{ api.Ask }

func (t tracing) ask(n network) api.Reply {
	// The sets were looked at. What they leave as it is is 0.
	word, _ := field.Word(n.config.Fields, t.Sets)
	packet := api.State{Port: n.port(t.From), Header: strings.ReplaceAll(word, "x", "0")}
	reply := api.Reply{Kind: t.Kind, Space: "none"}
	for p := range step.Paths(n.net, packet, t.Hops) {
		if len(reply.Lines) == api.MaxTrails {
			reply.More = true
			break
		}
		if !reply.Found && n.isOut(p.Ports[len(p.Ports)-1]) {
			reply.Found, reply.Space, reply.Witness = true, packet.Header, packet.Header
			reply.Ports, reply.Entries, reply.Final = n.portNames(p.Ports), n.entryNames(p.Entries), p.Header
		}
		reply.Lines = append(reply.Lines, strings.Join(n.portNames(p.Ports), " "))
	}
	return reply
}

// offence is the first thing that a question asks for and a well-formed network does not have.
func offence(c api.Config, q question) api.Errno {
	switch x := q.(type) {
	case journey:
		if !hasPort(c, x.From) || x.To != "" && !hasPort(c, x.To) {
			return api.ErrNoPort
		}
		if expr.Check(c.Fields, x.Where) != api.OK {
			return api.ErrMatch
		}
	case parting:
		if !hasSlice(c, x.From) || !hasSlice(c, x.To) {
			return api.ErrNoSlice
		}
	case tracing:
		if !hasPort(c, x.From) {
			return api.ErrNoPort
		}
		if _, errno := field.Word(c.Fields, x.Sets); errno != api.OK {
			return api.ErrSets
		}
	}
	return api.OK
}

func hasPort(c api.Config, name string) bool { return model.Find(c, name) >= 0 }

func hasSlice(c api.Config, name string) bool {
	return slices.ContainsFunc(c.Slices, func(s api.Slice) bool { return s.Name == name })
}
