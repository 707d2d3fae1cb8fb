package survey

import (
	"cmp"
	"slices"

	"gangsaw/api"
	"gangsaw/lexer"
	"gangsaw/parser"
)

// The words with which lines of a survey begin.
const (
	surveyWord = "survey"
	pitWord    = "pit"
	openWord   = "open"
	bedWord    = "bed"
	jointWord  = "joint"
	flawWord   = "flaw"
	cornerWord = "corner"
)

// sideWords returns the words for the sides of the pit, by directions.
func sideWords() [4]string { return [4]string{"east", "west", "north", "south"} }

// axisWords returns the words for the axes of joints.
func axisWords() [2]string { return [2]string{"x", "y"} }

// Load returns the survey of a line with its kids, or the first fault.
func Load(l api.Line) (api.Survey, api.Fault) {
	refuse := func(code api.Errno) (api.Survey, api.Fault) { return api.Survey{}, parser.Bad(code, l, 0) }
	if !l.Heading || len(l.Tokens) != 1 || parser.Word(l) != surveyWord {
		return refuse(api.ErrSyntax)
	}
	x := loader{seen: map[string]bool{}}
	for _, kid := range l.Kids {
		if f := x.load(kid); f.Code != api.OK {
			return api.Survey{}, f
		}
	}
	if !x.seen[pitWord] {
		return refuse(api.ErrNone)
	}
	sortParts(x.survey)
	if e := Check(x.survey); e != api.OK {
		return refuse(e)
	}
	return x.survey, api.Fault{}
}

// sortParts brings the lists of a survey into their order.
func sortParts(s api.Survey) {
	slices.SortStableFunc(s.Beds, func(a, b api.Bed) int { return cmp.Or(cmp.Compare(a.Z, b.Z), cmp.Compare(a.Name, b.Name)) })
	slices.SortStableFunc(s.Joints, func(a, b api.Joint) int { return cmp.Compare(a.Name, b.Name) })
	slices.SortStableFunc(s.Flaws, func(a, b api.Flaw) int { return cmp.Compare(a.Name, b.Name) })
}

// loader has the survey of the kids so far, and the words with which they begin.
type loader struct {
	survey api.Survey
	seen   map[string]bool
}

// load adds what a kid of the survey's line says.
func (x *loader) load(kid api.Line) api.Fault {
	word := parser.Word(kid)
	if x.seen[word] && (word == pitWord || word == openWord) {
		return parser.Bad(api.ErrDuplicate, kid, 0)
	}
	x.seen[word] = true
	r := reader{line: kid, next: 1}
	switch word {
	case pitWord:
		x.survey.Pit = api.Box{Min: r.vector(), Max: r.vector()}
	case openWord:
		x.survey.Open = r.sides()
	case bedWord:
		x.survey.Beds = append(x.survey.Beds, api.Bed{Name: r.name(), Z: r.number()})
	case jointWord:
		x.survey.Joints = append(x.survey.Joints, api.Joint{Name: r.name(), Axis: r.axis(), At: r.number(), Lo: r.number(), Hi: r.number()})
	case flawWord:
		x.survey.Flaws = append(x.survey.Flaws, r.flaw())
	default:
		return parser.Bad(api.ErrSyntax, kid, 0)
	}
	if word != flawWord {
		r.end(false)
	}
	return r.fault
}

// reader takes the tokens of a line from left to right, and keeps the first fault.
type reader struct {
	line  api.Line
	next  int
	fault api.Fault
}

// fail notes a fault at the next token, if it is the first one.
func (r *reader) fail(code api.Errno) {
	if r.fault.Code == api.OK {
		r.fault = parser.Bad(code, r.line, r.next)
	}
}

// take returns the next token, if it is of a kind and the check finds no error in it.
func (r *reader) take(kind int, check func(api.Token) api.Errno) api.Token {
	code := api.ErrSyntax
	if r.next < len(r.line.Tokens) && r.line.Tokens[r.next].Kind == kind {
		code = check(r.line.Tokens[r.next])
	}
	if code != api.OK {
		r.fail(code)
		return api.Token{}
	}
	r.next++
	return r.line.Tokens[r.next-1]
}

func (r *reader) name() string {
	return r.take(api.TokWord, func(t api.Token) api.Errno {
		if !lexer.Name(t.Text) {
			return api.ErrName
		}
		return api.OK
	}).Text
}

func (r *reader) number() int {
	return int(r.take(api.TokNumber, func(t api.Token) api.Errno {
		if t.N < -api.MaxCoord || t.N > api.MaxCoord {
			return api.ErrRange
		}
		return api.OK
	}).N)
}

// oneOf returns the index of the next token among words.
func (r *reader) oneOf(words ...string) int {
	index := 0
	r.take(api.TokWord, func(t api.Token) api.Errno {
		index = slices.Index(words, t.Text)
		if index < 0 {
			return api.ErrSyntax
		}
		return api.OK
	})
	return index
}

func (r *reader) axis() int {
	words := axisWords()
	return r.oneOf(words[:]...)
}

// sides reads one or more words for sides, up to the end of the line.
func (r *reader) sides() [4]bool {
	var open [4]bool
	words := sideWords()
	side := func(t api.Token) api.Errno {
		i := slices.Index(words[:], t.Text)
		switch {
		case i < 0:
			return api.ErrSyntax
		case open[i]:
			return api.ErrDuplicate
		}
		open[i] = true
		return api.OK
	}
	r.take(api.TokWord, side)
	for r.next < len(r.line.Tokens) && r.fault.Code == api.OK {
		r.take(api.TokWord, side)
	}
	return open
}

func (r *reader) vector() api.Vec {
	return api.Vec{X: r.number(), Y: r.number(), Z: r.number()}
}

// end refuses tokens that are left over, then a line that is a heading although it must be none, or the other way round.
func (r *reader) end(heading bool) {
	if r.next < len(r.line.Tokens) {
		r.fail(api.ErrSyntax)
	}
	r.next = 0
	if r.line.Heading != heading || !heading && len(r.line.Kids) > 0 {
		r.fail(api.ErrSyntax)
	}
}

// flaw reads the whole line of a flaw, with its corners.
func (r *reader) flaw() api.Flaw {
	f := api.Flaw{Name: r.name(), Prism: api.Prism{Lo: r.number(), Hi: r.number()}}
	r.end(true)
	for _, kid := range r.line.Kids {
		if r.fault.Code != api.OK {
			break
		}
		k := reader{line: kid}
		k.oneOf(cornerWord)
		f.Prism.Base = append(f.Prism.Base, api.Point{X: k.number(), Y: k.number()})
		k.end(false)
		r.fault = k.fault
	}
	return f
}
