package cutlist

import (
	"cmp"
	"slices"

	"gangsaw/api"
	"gangsaw/parser"
)

// The words of lines.
const (
	buildingWord = "building"
	profileWord  = "profile"
	cornerWord   = "corner"
	wallWord     = "wall"
	lengthWord   = "length"
	lapWord      = "lap"
	jointWord    = "joint"
	stoneWord    = "stone"
	courseWord   = "course"
	atWord       = "at"
	sizeWord     = "size"
	bedWord      = "bed"
	tolWord      = "tol"
	gradeWord    = "grade"
	colourWord   = "colour"
	shapeWord    = "shape"
	anchorWord   = "anchor"
	edgeWord     = "edge"
)

// The forms of tokens in patterns.
const (
	nameForm   = "NAME"
	numberForm = "NUMBER"
)

// bedWords returns the words for beds, by their numbers.
func bedWords() []string { return []string{"any", "natural", "up", "edge"} }

// form is what a line that begins with a word has behind it.
type form struct {
	pattern []string
	words   []string // those of which the second token must be one, if there are any
	isOnce  bool
	isLeaf  bool
	read    func(l api.Line) api.Fault
}

// builder has what was read so far.
type builder struct {
	building api.Building
	named    api.Line // the line building
	isNamed  bool
}

// Load returns the building of a source, or the first fault.
func Load(source string) (api.Building, api.Fault) {
	lines, f := parser.Parse(source)
	if f.Code != api.OK {
		return api.Building{}, f
	}
	return Build(lines)
}

// Build returns the building of lines, or the first fault.
func Build(list []api.Line) (api.Building, api.Fault) {
	b := &builder{}
	f := each(list, map[string]form{
		buildingWord: {pattern: []string{nameForm}, isOnce: true, isLeaf: true, read: b.readName},
		profileWord:  {pattern: []string{nameForm}, read: b.readProfile},
		wallWord:     {pattern: []string{nameForm, lengthWord, numberForm, lapWord, numberForm, jointWord, numberForm, numberForm}, read: b.readWall},
	})
	if f.Code != api.OK {
		return api.Building{}, f
	}
	if !b.isNamed {
		return api.Building{}, api.Fault{Code: api.ErrNone, Line: 1, Col: 1}
	}
	slices.SortStableFunc(b.building.Profiles, func(p, q api.Profile) int { return cmp.Compare(p.Name, q.Name) })
	slices.SortStableFunc(b.building.Walls, func(w, x api.Wall) int { return cmp.Compare(w.Name, x.Name) })
	for _, w := range b.building.Walls {
		slices.SortStableFunc(w.Stones, func(s, t api.Stone) int { return cmp.Compare(s.Name, t.Name) })
	}
	if e := Check(b.building); e != api.OK {
		return api.Building{}, parser.Bad(e, b.named, 0)
	}
	return b.building, api.Fault{}
}

// each reads lines by the forms of their words, up to the first fault.
func each(list []api.Line, forms map[string]form) api.Fault {
	seen := map[string]bool{}
	for _, l := range list {
		word := parser.Word(l)
		f, isKnown := forms[word]
		switch {
		case !isKnown:
			return parser.Bad(api.ErrSyntax, l, 0)
		case f.isOnce && seen[word]:
			return parser.Bad(api.ErrDuplicate, l, 0)
		}
		seen[word] = true
		if fault := f.check(l, word); fault.Code != api.OK {
			return fault
		}
		if fault := f.read(l); fault.Code != api.OK {
			return fault
		}
	}
	return api.Fault{}
}

// check returns the fault of a line that begins with the word of a form.
func (f form) check(l api.Line, word string) api.Fault {
	if fault := parser.Shape(l, slices.Concat([]string{word}, f.pattern)); fault.Code != api.OK {
		return fault
	}
	for i, t := range l.Tokens {
		if t.Kind == api.TokNumber && (t.N < -api.MaxCoord || t.N > api.MaxCoord) {
			return parser.Bad(api.ErrRange, l, i)
		}
	}
	switch {
	case len(f.words) > 0 && !slices.Contains(f.words, l.Tokens[1].Text):
		return parser.Bad(api.ErrUnknown, l, 1)
	case f.isLeaf && (l.Heading || len(l.Kids) > 0):
		return parser.Bad(api.ErrSyntax, l, 0)
	}
	return api.Fault{}
}

// number returns a number of a line that was checked.
func number(l api.Line, token int) int { return int(l.Tokens[token].N) }

func (b *builder) readName(l api.Line) api.Fault {
	b.building.Name, b.named, b.isNamed = l.Tokens[1].Text, l, true
	return api.Fault{}
}

func (b *builder) readProfile(l api.Line) api.Fault {
	p := api.Profile{Name: l.Tokens[1].Text}
	f := each(l.Kids, map[string]form{
		cornerWord: {pattern: []string{numberForm, numberForm}, isLeaf: true, read: func(kid api.Line) api.Fault {
			p.Outline = append(p.Outline, api.Point{X: number(kid, 1), Y: number(kid, 2)})
			return api.Fault{}
		}},
	})
	b.building.Profiles = append(b.building.Profiles, p)
	return f
}

func (b *builder) readWall(l api.Line) api.Fault {
	w := api.Wall{Name: l.Tokens[1].Text, Length: number(l, 3), Lap: number(l, 5), Joint: api.Interval{Lo: number(l, 7), Hi: number(l, 8)}}
	pattern := []string{nameForm, courseWord, numberForm, atWord, numberForm, numberForm, sizeWord, numberForm, numberForm, numberForm}
	f := each(l.Kids, map[string]form{
		stoneWord: {pattern: pattern, read: func(kid api.Line) api.Fault {
			s, fault := readStone(kid)
			w.Stones = append(w.Stones, s)
			return fault
		}},
	})
	b.building.Walls = append(b.building.Walls, w)
	return f
}

func readStone(l api.Line) (api.Stone, api.Fault) {
	s := api.Stone{
		Name: l.Tokens[1].Text, Course: number(l, 3),
		At:   api.Vec{X: number(l, 5), Z: number(l, 6)},
		Size: api.Vec{X: number(l, 8), Y: number(l, 9), Z: number(l, 10)},
	}
	once := func(pattern string, read func(l api.Line)) form {
		return form{pattern: []string{pattern}, isOnce: true, isLeaf: true, read: func(kid api.Line) api.Fault {
			read(kid)
			return api.Fault{}
		}}
	}
	bed := once("WORD", func(kid api.Line) { s.Bed = slices.Index(bedWords(), kid.Tokens[1].Text) })
	bed.words = bedWords()
	f := each(l.Kids, map[string]form{
		bedWord:    bed,
		tolWord:    once(numberForm, func(kid api.Line) { s.Tol = number(kid, 1) }),
		gradeWord:  once(nameForm, func(kid api.Line) { s.Grade = kid.Tokens[1].Text }),
		colourWord: once(numberForm, func(kid api.Line) { s.Colour = number(kid, 1) }),
		shapeWord:  once(nameForm, func(kid api.Line) { s.Profile = kid.Tokens[1].Text }),
		anchorWord: {pattern: []string{numberForm, atWord, numberForm, numberForm, edgeWord, numberForm}, isLeaf: true, read: func(kid api.Line) api.Fault {
			s.Anchors = append(s.Anchors, api.Anchor{Face: number(kid, 1), At: api.Point{X: number(kid, 3), Y: number(kid, 4)}, Edge: number(kid, 6)})
			return api.Fault{}
		}},
	})
	return s, f
}
