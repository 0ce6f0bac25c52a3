package run

import "reach/api"

// kindBudget stands where a query has its Kind: the first word `budget` begins no query.
const kindBudget = 0

// The words that a line may begin with, by the Kind of the query.
var words = [...]string{
	kindBudget:     "budget",
	api.AskReach:   "reach",
	api.AskMissed:  "missed",
	api.AskLoop:    "loop",
	api.AskLost:    "lost",
	api.AskIsolate: "isolate",
	api.AskPath:    "path",
	api.AskAvoid:   "avoid",
	api.AskCover:   "cover",
	api.AskTrace:   "trace",
}

const (
	wordTo    = "to"
	wordWhere = "where"
	wordFrom  = "from"
	wordAlong = "along"
	wordHops  = "hops"
	wordSet   = "set"

	signComma = ","
	signEqual = "="
)

// isQuery: whether a Kind is that of a query.
func isQuery(kind int) bool { return kind != kindBudget && kind >= 0 && kind < len(words) }

// part reads a part of a line into what the reader has of it.
type part func(*reader)

// row is what a line's first word says: the parts that stand behind it, and the question that they make.
type row struct {
	parts    []part
	question func(api.Ask) question
}

// rows has the row of each word, in the order of words.
func rows() []row {
	return []row{
		{[]part{(*reader).amount}, nil},
		{[]part{(*reader).from, (*reader).to, (*reader).where, (*reader).hops}, settingOut(errand.reach)},
		{[]part{(*reader).from, (*reader).to, (*reader).where, (*reader).hops}, settingOut(errand.missed)},
		{[]part{(*reader).from, (*reader).where, (*reader).hops}, settingOut(errand.loop)},
		{[]part{(*reader).from, (*reader).where, (*reader).hops}, settingOut(errand.lost)},
		{[]part{(*reader).slices, (*reader).hops}, func(a api.Ask) question { return parting{a} }},
		{[]part{(*reader).from, (*reader).where, (*reader).along, (*reader).hops}, settingOut(errand.path)},
		{[]part{(*reader).from, (*reader).to, (*reader).where, (*reader).along, (*reader).hops}, settingOut(errand.avoid)},
		{[]part{(*reader).hops}, func(a api.Ask) question { return covering{a} }},
		{[]part{(*reader).from, (*reader).sets, (*reader).hops}, func(a api.Ask) question { return tracing{a} }},
	}
}

// settingOut makes questions that this call answers.
func settingOut(answer func(errand) (api.Answer, api.Errno)) func(api.Ask) question {
	return func(a api.Ask) question { return journey{a, answer} }
}

// made are the questions of a text's queries.
func made(asks []api.Ask) []question {
	table := rows()
	var list []question
	for _, a := range asks {
		list = append(list, table[a.Kind].question(a))
	}
	return list
}
