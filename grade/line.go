package grade

import (
	"gangsaw/api"
	"gangsaw/parser"
)

// The words of the line of a grade.
const (
	gradeWord      = "grade"
	rankWord       = "rank"
	strengthWord   = "strength"
	absorptionWord = "absorption"
)

// The tokens of the line that have the name and the numbers.
const (
	nameToken       = 1
	rankToken       = 3
	strengthToken   = 5
	absorptionToken = 7
)

// Load returns the grade of a line, or the first fault.
func Load(l api.Line) (api.Grade, api.Fault) {
	pattern := []string{gradeWord, "NAME", rankWord, "NUMBER", strengthWord, "NUMBER", absorptionWord, "NUMBER"}
	if f := parser.Shape(l, pattern); f.Code != api.OK {
		return api.Grade{}, f
	}
	if l.Heading || len(l.Kids) > 0 {
		return api.Grade{}, parser.Bad(api.ErrSyntax, l, 0)
	}
	number := func(token int) int64 { return l.Tokens[token].N }
	switch {
	case !isRank(number(rankToken)):
		return api.Grade{}, parser.Bad(api.ErrRange, l, rankToken)
	case !isStrength(number(strengthToken)):
		return api.Grade{}, parser.Bad(api.ErrRange, l, strengthToken)
	case !isAbsorption(number(absorptionToken)):
		return api.Grade{}, parser.Bad(api.ErrRange, l, absorptionToken)
	}
	return api.Grade{
		Name:       l.Tokens[nameToken].Text,
		Rank:       int(number(rankToken)),
		Strength:   int(number(strengthToken)),
		Absorption: int(number(absorptionToken)),
	}, api.Fault{}
}

// Line returns the canonical line of a grade.
func Line(g api.Grade) (api.Line, api.Errno) {
	if e := checkGrades(g); e != api.OK {
		return api.Line{}, e
	}
	word := func(s string) api.Token { return api.Token{Kind: api.TokWord, Text: s} }
	number := func(n int) api.Token { return api.Token{Kind: api.TokNumber, N: int64(n)} }
	return api.Line{Tokens: []api.Token{
		word(gradeWord), word(g.Name), word(rankWord), number(g.Rank),
		word(strengthWord), number(g.Strength), word(absorptionWord), number(g.Absorption),
	}}, api.OK
}
