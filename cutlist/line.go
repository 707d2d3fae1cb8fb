package cutlist

import "gangsaw/api"

// Lines returns the canonical lines of a building.
func Lines(b api.Building) ([]api.Line, api.Errno) {
	if e := Check(b); e != api.OK {
		return nil, e
	}
	list := []api.Line{line(nil, buildingWord, b.Name)}
	for _, p := range b.Profiles {
		var corners []api.Line
		for _, c := range p.Outline {
			corners = append(corners, line(nil, cornerWord, c.X, c.Y))
		}
		list = append(list, line(corners, profileWord, p.Name))
	}
	for _, w := range b.Walls {
		var kids []api.Line
		for _, s := range w.Stones {
			kids = append(kids, line(stoneKids(s), stoneWord, s.Name, courseWord, s.Course, atWord, s.At.X, s.At.Z, sizeWord, s.Size.X, s.Size.Y, s.Size.Z))
		}
		list = append(list, line(kids, wallWord, w.Name, lengthWord, w.Length, lapWord, w.Lap, jointWord, w.Joint.Lo, w.Joint.Hi))
	}
	return list, api.OK
}

// line returns a line of words and numbers.
func line(kids []api.Line, parts ...any) api.Line {
	l := api.Line{Kids: kids, Heading: len(kids) > 0}
	for _, p := range parts {
		switch x := p.(type) {
		case string:
			l.Tokens = append(l.Tokens, api.Token{Kind: api.TokWord, Text: x})
		case int:
			l.Tokens = append(l.Tokens, api.Token{Kind: api.TokNumber, N: int64(x)})
		}
	}
	return l
}

// stoneKids returns the lines of what a stone has beside its place and size.
func stoneKids(s api.Stone) []api.Line {
	var kids []api.Line
	add := func(isThere bool, parts ...any) {
		if isThere {
			kids = append(kids, line(nil, parts...))
		}
	}
	add(s.Bed != api.BedAny, bedWord, bedWords()[s.Bed])
	add(s.Tol != 0, tolWord, s.Tol)
	add(s.Grade != "", gradeWord, s.Grade)
	add(s.Colour != 0, colourWord, s.Colour)
	add(s.Profile != "", shapeWord, s.Profile)
	for _, a := range s.Anchors {
		add(true, anchorWord, a.Face, atWord, a.At.X, a.At.Y, edgeWord, a.Edge)
	}
	return kids
}
