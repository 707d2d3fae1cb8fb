package survey

import "gangsaw/api"

// Line returns the canonical line of a survey.
func Line(s api.Survey) (api.Line, api.Errno) {
	if e := Check(s); e != api.OK {
		return api.Line{}, e
	}
	l := row(surveyWord)
	l.Heading = true
	add := func(kid api.Line) { l.Kids = append(l.Kids, kid) }
	lo, hi := s.Pit.Min, s.Pit.Max
	add(with(row(pitWord), lo.X, lo.Y, lo.Z, hi.X, hi.Y, hi.Z))
	if open := openSides(s); len(open) > 0 {
		add(row(openWord, open...))
	}
	for _, b := range s.Beds {
		add(with(row(bedWord, b.Name), b.Z))
	}
	axes := axisWords()
	for _, j := range s.Joints {
		add(with(row(jointWord, j.Name, axes[j.Axis]), j.At, j.Lo, j.Hi))
	}
	for _, f := range s.Flaws {
		add(flawLine(f))
	}
	return l, api.OK
}

func flawLine(f api.Flaw) api.Line {
	l := with(row(flawWord, f.Name), f.Prism.Lo, f.Prism.Hi)
	l.Heading = true
	for _, c := range f.Prism.Base {
		l.Kids = append(l.Kids, with(row(cornerWord), c.X, c.Y))
	}
	return l
}

func openSides(s api.Survey) []string {
	var open []string
	for side, word := range sideWords() {
		if s.Open[side] {
			open = append(open, word)
		}
	}
	return open
}

// row returns a line of words.
func row(word string, more ...string) api.Line {
	l := api.Line{Tokens: []api.Token{{Kind: api.TokWord, Text: word}}}
	for _, w := range more {
		l.Tokens = append(l.Tokens, api.Token{Kind: api.TokWord, Text: w})
	}
	return l
}

// with returns a line with numbers behind its words.
func with(l api.Line, numbers ...int) api.Line {
	for _, n := range numbers {
		l.Tokens = append(l.Tokens, api.Token{Kind: api.TokNumber, N: int64(n)})
	}
	return l
}
