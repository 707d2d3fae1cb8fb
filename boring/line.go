package boring

import (
	"gangsaw/api"
	"gangsaw/parser"
)

// The words of the lines of a boring.
const (
	boringWord = "boring"
	atWord     = "at"
	soundWord  = "sound"
	flawedWord = "flawed"
	nameForm   = "NAME"
	numberForm = "NUMBER"
)

// Load returns the boring of a line and its kids, or the first fault.
func Load(l api.Line) (api.Boring, api.Fault) {
	if f := checkLine(l, boringWord, nameForm, atWord, numberForm, numberForm); f.Code != api.OK {
		return api.Boring{}, f
	}
	if !l.Heading {
		return api.Boring{}, parser.Bad(api.ErrSyntax, l, 0)
	}
	b := api.Boring{Name: l.Tokens[1].Text, At: api.Point{X: int(l.Tokens[3].N), Y: int(l.Tokens[4].N)}}
	for _, kid := range l.Kids {
		log, f := loadLog(kid)
		if f.Code != api.OK {
			return api.Boring{}, f
		}
		b.Logs = append(b.Logs, log)
	}
	if e := checkFormed(b); e != api.OK {
		return api.Boring{}, parser.Bad(e, l, 0)
	}
	return b, api.Fault{}
}

// Line returns the canonical line of a boring.
func Line(b api.Boring) (api.Line, api.Errno) {
	if e := checkFormed(b); e != api.OK {
		return api.Line{}, e
	}
	l := api.Line{Tokens: []api.Token{word(boringWord), word(b.Name), word(atWord), number(b.At.X), number(b.At.Y)}, Heading: true}
	for _, log := range b.Logs {
		state := soundWord
		if log.State == api.Flawed {
			state = flawedWord
		}
		l.Kids = append(l.Kids, api.Line{Tokens: []api.Token{word(state), number(log.Lo), number(log.Hi)}})
	}
	return l, api.OK
}

func loadLog(kid api.Line) (api.Log, api.Fault) {
	state := api.Sound
	begin := parser.Word(kid)
	switch begin {
	case soundWord:
	case flawedWord:
		state = api.Flawed
	default:
		return api.Log{}, parser.Bad(api.ErrSyntax, kid, 0)
	}
	if kid.Heading || len(kid.Kids) > 0 {
		return api.Log{}, parser.Bad(api.ErrSyntax, kid, 0)
	}
	if f := checkLine(kid, begin, numberForm, numberForm); f.Code != api.OK {
		return api.Log{}, f
	}
	return api.Log{Lo: int(kid.Tokens[1].N), Hi: int(kid.Tokens[2].N), State: state}, api.Fault{}
}

// checkLine returns the fault of a line's form, or that of its first number that is out of range.
func checkLine(l api.Line, pattern ...string) api.Fault {
	if f := parser.Shape(l, pattern); f.Code != api.OK {
		return f
	}
	for i, t := range l.Tokens {
		if t.Kind == api.TokNumber && outOfRange(int(t.N)) {
			return parser.Bad(api.ErrRange, l, i)
		}
	}
	return api.Fault{}
}

func word(s string) api.Token { return api.Token{Kind: api.TokWord, Text: s} }

func number(n int) api.Token { return api.Token{Kind: api.TokNumber, N: int64(n)} }
