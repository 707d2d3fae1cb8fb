package cutlist_test

import (
	"math"
	"math/rand"
	"reflect"
	"slices"
	"strconv"
	"strings"
	"testing"

	"gangsaw/api"
	"gangsaw/cutlist"
	"gangsaw/lexer"
	"gangsaw/parser"
	"gangsaw/printer"
)

const chapel = "building chapel\nwall south length 100 lap 10 joint 5 5:\n  stone a course 0 at 0 0 size 100 40 30:\n    bed natural\n"

// source has everything, not in order.
const source = `wall west length 50 lap 3 joint 5 5:
  stone b course 1 at 0 30 size 50 40 25
  stone a course 0 at 0 0 size 50 40 25:
    anchor 4 at 9 7 edge 6
    shape plinth
    colour 7
    anchor 0 at 1 2 edge 3
    grade fine
    tol 2
    bed edge
wall empty length 1 lap 0 joint 0 1:
profile plinth:
  corner 10 0
  corner 0 0
  corner -1 5
building chapel # the name
profile cap:
  corner 0 0
  corner 9 0
  corner 0 9
`

const canonical = `building chapel
profile cap:
  corner 0 0
  corner 9 0
  corner 0 9
profile plinth:
  corner 10 0
  corner 0 0
  corner -1 5
wall empty length 1 lap 0 joint 0 1
wall west length 50 lap 3 joint 5 5:
  stone a course 0 at 0 0 size 50 40 25:
    bed edge
    tol 2
    grade fine
    colour 7
    shape plinth
    anchor 4 at 9 7 edge 6
    anchor 0 at 1 2 edge 3
  stone b course 1 at 0 30 size 50 40 25
`

func building() api.Building {
	return api.Building{
		Name: "chapel",
		Profiles: []api.Profile{
			{Name: "cap", Outline: api.Polygon{{X: 0, Y: 0}, {X: 9, Y: 0}, {X: 0, Y: 9}}},
			{Name: "plinth", Outline: api.Polygon{{X: 10, Y: 0}, {X: 0, Y: 0}, {X: -1, Y: 5}}},
		},
		Walls: []api.Wall{
			{Name: "empty", Length: 1, Joint: api.Interval{Hi: 1}},
			{Name: "west", Length: 50, Lap: 3, Joint: api.Interval{Lo: 5, Hi: 5}, Stones: []api.Stone{
				{Name: "a", Size: api.Vec{X: 50, Y: 40, Z: 25}, Tol: 2, Bed: api.BedEdge, Grade: "fine", Colour: 7, Profile: "plinth", Anchors: []api.Anchor{{Face: 4, At: api.Point{X: 9, Y: 7}, Edge: 6}, {Face: 0, At: api.Point{X: 1, Y: 2}, Edge: 3}}},
				{Name: "b", Course: 1, Size: api.Vec{X: 50, Y: 40, Z: 25}, At: api.Vec{Z: 30}},
			}},
		},
	}
}

// P45.1 to P45.4: the examples.
func TestExamples(t *testing.T) {
	b, f := cutlist.Load(chapel)
	want := api.Building{Name: "chapel", Walls: []api.Wall{{Name: "south", Length: 100, Lap: 10, Joint: api.Interval{Lo: 5, Hi: 5}, Stones: []api.Stone{{Name: "a", Size: api.Vec{X: 100, Y: 40, Z: 30}, Bed: api.BedNatural}}}}}
	if !cutlist.Equal(b, want) || f != (api.Fault{}) {
		t.Errorf("Load = %v, %v", b, f)
	}
	if n, e := cutlist.Volume(b); n != 120000 || e != api.OK {
		t.Errorf("Volume = %d, %d", n, e)
	}
	for from, c := range map[string]struct {
		to   string
		want api.Fault
	}{
		"bed natural":              {"bed flat", api.Fault{Code: api.ErrUnknown, Line: 4, Col: 9}},
		"size 100 40 30":           {"size 90 40 30", api.Fault{Code: api.ErrConflict, Line: 1, Col: 1}},
		"    bed natural\n":        {"    bed natural\n    bed up\n", api.Fault{Code: api.ErrDuplicate, Line: 5, Col: 5}},
		"building chapel":          {"building Chapel", api.Fault{Code: api.ErrName, Line: 1, Col: 10}},
		"building chapel\n":        {"", api.Fault{Code: api.ErrNone, Line: 1, Col: 1}},
		"building chapel\nwall so": {"  x", api.Fault{Code: api.ErrSyntax, Line: 1, Col: 3}},
	} {
		if b, f := cutlist.Load(strings.Replace(chapel, from, c.to, 1)); f != c.want || !reflect.DeepEqual(b, api.Building{}) {
			t.Errorf("Load with %q: %v, %v", c.to, b, f)
		}
	}
}

// P45.2, P45.3
func TestLoad(t *testing.T) {
	b, f := cutlist.Load(source)
	if !reflect.DeepEqual(b, building()) || f != (api.Fault{}) {
		t.Errorf("Load = %v, %v", b, f)
	}
	got, e := cutlist.Source(building())
	if got != canonical || e != api.OK {
		t.Errorf("Source = %q, %d", got, e)
	}
	lines, e := cutlist.Lines(building())
	parsed, _ := parser.Parse(canonical)
	if !printer.Same(lines, parsed) || e != api.OK || lines[0].At != 0 || lines[0].Tokens[0].At != 0 || lines[3].Heading || !lines[4].Heading {
		t.Errorf("Lines = %v, %d", lines, e)
	}
	again, f := cutlist.Build(lines)
	if !cutlist.Equal(again, building()) || f != (api.Fault{}) {
		t.Errorf("Build = %v, %v", again, f)
	}
}

// P45.2: faults of lines, and which one comes first.
func TestFaults(t *testing.T) {
	for i, c := range []struct {
		source string
		want   api.Fault
	}{
		{"", api.Fault{Code: api.ErrNone, Line: 1, Col: 1}},
		{"\n  \nwall w length 1 lap 0 joint 0 0", api.Fault{Code: api.ErrNone, Line: 1, Col: 1}},
		{"building a\nbuilding B", api.Fault{Code: api.ErrDuplicate, Line: 2, Col: 1}},
		{"building a\n building b", api.Fault{Code: api.ErrSyntax, Line: 2, Col: 2}},
		{"building a b:", api.Fault{Code: api.ErrSyntax, Line: 1, Col: 12}},
		{"building a:", api.Fault{Code: api.ErrSyntax, Line: 1, Col: 1}},
		{"building a\nroof b", api.Fault{Code: api.ErrSyntax, Line: 2, Col: 1}},
		{"building a\n5 b", api.Fault{Code: api.ErrSyntax, Line: 2, Col: 1}},
		{"building a\ncorner 1 2", api.Fault{Code: api.ErrSyntax, Line: 2, Col: 1}},
		{"profile p:\n  stone a\nbuilding", api.Fault{Code: api.ErrSyntax, Line: 2, Col: 3}},
		{"profile p:\n  corner 1 1000001\n", api.Fault{Code: api.ErrRange, Line: 2, Col: 12}},
		{"profile p:\n  corner -1000001 1000001\n", api.Fault{Code: api.ErrRange, Line: 2, Col: 10}},
		{"profile p:\n  corner 1\n", api.Fault{Code: api.ErrSyntax, Line: 2, Col: 10}},
		{"profile p:\n  corner 1000001 2 3\n", api.Fault{Code: api.ErrSyntax, Line: 2, Col: 20}},
		{"profile p:\n  corner 1000001 2:\n", api.Fault{Code: api.ErrRange, Line: 2, Col: 10}},
		{"profile p:\n  corner 1 2:\n    x\n", api.Fault{Code: api.ErrSyntax, Line: 2, Col: 3}},
		{"profile P:\n  x\n", api.Fault{Code: api.ErrName, Line: 1, Col: 9}},
		{"wall w length 1 lap 0 joint 0", api.Fault{Code: api.ErrSyntax, Line: 1, Col: 29}},
		{"wall w length 1 lap 0 joint 0 1000001:\n  x", api.Fault{Code: api.ErrRange, Line: 1, Col: 31}},
		{"wall w length 1 lap 0 joint 0 1:\n  bed up", api.Fault{Code: api.ErrSyntax, Line: 2, Col: 3}},
		{"wall w length 1 lap 0 joint 0 1:\n  stone s course 0 at 0 0 size 1 1", api.Fault{Code: api.ErrSyntax, Line: 2, Col: 34}},
		{"wall w length 1 lap 0 joint 0 1:\n  stone s course 0 at 0 0 size 1 1 -1000001:\n    x", api.Fault{Code: api.ErrRange, Line: 2, Col: 36}},
	} {
		if b, f := cutlist.Load(c.source); f != c.want || !reflect.DeepEqual(b, api.Building{}) {
			t.Errorf("Load %d = %v, %v", i, b, f)
		}
	}
	stone := "wall w length 1 lap 0 joint 0 1:\n  stone s course 0 at 0 0 size 1 1 1:\n"
	for kids, want := range map[string]api.Fault{
		"corner 1 1":                          {Code: api.ErrSyntax, Line: 3, Col: 5},
		"bed up\n    bed Up:":                 {Code: api.ErrDuplicate, Line: 4, Col: 5},
		"tol 1\n    tol x":                    {Code: api.ErrDuplicate, Line: 4, Col: 5},
		"grade a\n    grade b":                {Code: api.ErrDuplicate, Line: 4, Col: 5},
		"colour 1\n    bed up\n    colour 1":  {Code: api.ErrDuplicate, Line: 5, Col: 5},
		"shape a\n    shape a":                {Code: api.ErrDuplicate, Line: 4, Col: 5},
		"bed 5":                               {Code: api.ErrSyntax, Line: 3, Col: 9},
		"bed UP:":                             {Code: api.ErrUnknown, Line: 3, Col: 9},
		"bed up:":                             {Code: api.ErrSyntax, Line: 3, Col: 5},
		"tol 1000001:":                        {Code: api.ErrRange, Line: 3, Col: 9},
		"tol 1:":                              {Code: api.ErrSyntax, Line: 3, Col: 5},
		"grade Fine:":                         {Code: api.ErrName, Line: 3, Col: 11},
		"grade fine:":                         {Code: api.ErrSyntax, Line: 3, Col: 5},
		"colour -1000001":                     {Code: api.ErrRange, Line: 3, Col: 12},
		"colour 1:":                           {Code: api.ErrSyntax, Line: 3, Col: 5},
		"shape P":                             {Code: api.ErrName, Line: 3, Col: 11},
		"shape p:":                            {Code: api.ErrSyntax, Line: 3, Col: 5},
		"anchor 0 at 1 2 edge":                {Code: api.ErrSyntax, Line: 3, Col: 21},
		"anchor 0 at 1 1000001 edge 3":        {Code: api.ErrRange, Line: 3, Col: 19},
		"anchor 0 at 1 2 edge 3:":             {Code: api.ErrSyntax, Line: 3, Col: 5},
		"anchor 0 on 1 2 edge 3":              {Code: api.ErrSyntax, Line: 3, Col: 14},
		"tol 101\nbuilding b":                 {Code: api.ErrRange, Line: 4, Col: 1},
		"colour 1001\n\nbuilding b":           {Code: api.ErrRange, Line: 5, Col: 1},
		"shape p\nbuilding b":                 {Code: api.ErrUnknown, Line: 4, Col: 1},
		"anchor 6 at 1 2 edge 3\nbuilding b":  {Code: api.ErrRange, Line: 4, Col: 1},
		"anchor 5 at 1 -2 edge 3\nbuilding b": {Code: api.ErrRange, Line: 4, Col: 1},
		"tol 1\nbuilding b\nwall w length 1 lap 0 joint 0 1": {Code: api.ErrDuplicate, Line: 4, Col: 1},
		"tol 1\nbuilding b\n":                                {},
	} {
		if _, f := cutlist.Load(stone + "    " + kids); f != want {
			t.Errorf("Load with %q: %v, want %v", kids, f, want)
		}
	}
}

// P45.2: lines that no source has.
func TestOddLines(t *testing.T) {
	if _, f := cutlist.Build([]api.Line{{At: 7}}); f != (api.Fault{Code: api.ErrSyntax, Line: 7, Col: 1}) {
		t.Errorf("Build = %v", f)
	}
	word := func(s string) api.Token { return api.Token{Kind: api.TokWord, Text: s} }
	l := api.Line{Tokens: []api.Token{word("building"), word("b")}, Kids: []api.Line{{}}}
	if _, f := cutlist.Build([]api.Line{l}); f.Code != api.ErrSyntax {
		t.Errorf("Build = %v", f)
	}
	if _, f := cutlist.Load(strings.Repeat(" ", api.MaxSource+1)); f != (api.Fault{Code: api.ErrTooMany, Line: 1, Col: 1}) {
		t.Errorf("Load = %v", f)
	}
	lines, _ := cutlist.Lines(building())
	lines[4].Heading = false
	if b, f := cutlist.Build(lines); !cutlist.Equal(b, building()) || f != (api.Fault{}) {
		t.Errorf("Build = %v, %v", b, f)
	}
}

type refusal struct {
	change func(b *api.Building)
	e      api.Errno
}

func refusals() []refusal {
	a := func(b *api.Building) *api.Stone { return &b.Walls[1].Stones[0] }
	bad := func(b *api.Building) { a(b).Size.Y, a(b).Size.X, b.Profiles[1].Outline = 0, 49, nil }
	many := func(n int) []api.Stone {
		var list []api.Stone
		for i := range n {
			list = append(list, api.Stone{Name: "s" + strconv.Itoa(1000+i)})
		}
		return list
	}
	list := []refusal{
		{func(b *api.Building) { b.Name = ""; b.Profiles = make([]api.Profile, 65) }, api.ErrName},
		{func(b *api.Building) { b.Profiles[1].Name = strings.Repeat("p", 25); b.Walls = make([]api.Wall, 65) }, api.ErrName},
		{func(b *api.Building) { bad(b); b.Profiles = slices.Repeat(b.Profiles[:1], 65) }, api.ErrTooMany},
		{func(b *api.Building) { bad(b); b.Walls = make([]api.Wall, 65) }, api.ErrTooMany},
		{func(b *api.Building) { bad(b); b.Walls[0].Stones = many(511) }, api.ErrTooMany},
		{func(b *api.Building) { bad(b); b.Walls[0].Stones = many(510) }, api.ErrInvalid},
		{func(b *api.Building) { b.Profiles[0].Outline[0].X = 1000001; b.Profiles[1].Outline[1].X = 10 }, api.ErrRange},
		{func(b *api.Building) { b.Profiles[0].Outline = make(api.Polygon, 65); b.Profiles[1].Outline = nil }, api.ErrTooMany},
		{func(b *api.Building) {
			b.Profiles[0].Outline = append(b.Profiles[0].Outline, api.Point{X: 9, Y: -1})
			b.Profiles[1].Name = "cap"
		}, api.ErrConflict},
		{func(b *api.Building) { b.Profiles[1].Name = "cap"; a(b).Size.X = 49 }, api.ErrDuplicate},
		{func(b *api.Building) { b.Profiles[0].Name = "z"; a(b).Size.X = 49 }, api.ErrDuplicate},
		{func(b *api.Building) { b.Walls[1].Name = "empty"; a(b).Size.X = 49 }, api.ErrDuplicate},
		{func(b *api.Building) { b.Walls[0].Name = "x"; a(b).Size.X = 49 }, api.ErrDuplicate},
		{func(b *api.Building) { a(b).Size.X = 49; a(b).Anchors = make([]api.Anchor, 9) }, api.ErrConflict},
		{func(b *api.Building) { b.Walls[1].Name = "wEst" }, api.ErrName},
		{func(b *api.Building) { a(b).Anchors = make([]api.Anchor, 9); a(b).Size.Y = 0 }, api.ErrTooMany},
		{func(b *api.Building) { a(b).Anchors = make([]api.Anchor, 8) }, api.OK},
		{func(b *api.Building) { a(b).At.Y = 1; a(b).Grade = "F" }, api.ErrInvalid},
		{func(b *api.Building) { a(b).At.Y = math.MinInt }, api.ErrInvalid},
		{func(b *api.Building) { a(b).Grade = "F"; a(b).Profile = "x" }, api.ErrName},
		{func(b *api.Building) { a(b).Profile = "x" }, api.ErrUnknown},
		{func(b *api.Building) { a(b).Profile, a(b).Grade, a(b).Anchors = "", "", nil }, api.OK},
	}
	set := func(place func(b *api.Building) *int, values ...int) {
		for _, n := range values {
			list = append(list, refusal{func(b *api.Building) { *place(b) = n; a(b).At.Y = 1 }, api.ErrRange})
		}
	}
	set(func(b *api.Building) *int { return &a(b).Size.Y }, 0, -1, 1000001, math.MaxInt)
	set(func(b *api.Building) *int { return &a(b).Bed }, -1, 4, math.MaxInt)
	set(func(b *api.Building) *int { return &a(b).Colour }, -1, 1001)
	set(func(b *api.Building) *int { return &a(b).Anchors[1].Face }, -1, 6)
	set(func(b *api.Building) *int { return &a(b).Anchors[1].At.X }, -1, 1000001)
	set(func(b *api.Building) *int { return &a(b).Anchors[1].At.Y }, -1, 1000001)
	set(func(b *api.Building) *int { return &a(b).Anchors[1].Edge }, -1, 1000001)
	return list
}

// P45.1, P1: each error, and which one comes first.
func TestErrors(t *testing.T) {
	for i, c := range refusals() {
		b := building()
		c.change(&b)
		lines, e1 := cutlist.Lines(b)
		text, e2 := cutlist.Source(b)
		stone, e3 := cutlist.Find(b, "west", "a")
		totals, e4 := cutlist.Totals(b)
		volume, e5 := cutlist.Volume(b)
		for k, e := range []api.Errno{cutlist.Check(b), e1, e2, e3, e4, e5} {
			if e != c.e {
				t.Errorf("refusal %d, function %d: %d, want %d", i, k, e, c.e)
			}
		}
		if c.e != api.OK && (lines != nil || text != "" || stone.Name != "" || totals != nil || volume != 0) {
			t.Errorf("refusal %d has results", i)
		}
	}
}

// P45.3: a canonical source that is too long.
func TestLongSource(t *testing.T) {
	b := api.Building{Name: "b"}
	for i := range 512 {
		name := strings.Repeat("w", 20) + strconv.Itoa(1000+i)
		if i%8 == 0 {
			b.Walls = append(b.Walls, api.Wall{Name: name, Length: 1000000, Joint: api.Interval{Hi: 10}})
		}
		w := &b.Walls[len(b.Walls)-1]
		w.Stones = append(w.Stones, api.Stone{Name: name, Course: i % 8, At: api.Vec{Z: 110000 * (i % 8)}, Size: api.Vec{X: 1000000, Y: 1000000, Z: 109995}, Grade: name, Anchors: make([]api.Anchor, 8)})
	}
	if e := cutlist.Check(b); e != api.OK {
		t.Fatal(e)
	}
	if s, e := cutlist.Source(b); s != "" || e != api.ErrTooMany {
		t.Errorf("Source has %d bytes, %d", len(s), e)
	}
	if n, e := cutlist.Volume(b); n != 0 || e != api.ErrRange {
		t.Errorf("Volume = %d, %d", n, e)
	}
	for i := range b.Walls {
		for k := range b.Walls[i].Stones {
			b.Walls[i].Stones[k].Size.Y = 125000
		}
	}
	if n, e := cutlist.Volume(b); n != 512*1000000*125000*109995 || e != api.OK {
		t.Errorf("Volume = %d, %d", n, e)
	}
}

// P45.4
func TestFind(t *testing.T) {
	b := building()
	s, e := cutlist.Find(b, "west", "a")
	if !reflect.DeepEqual(s, b.Walls[1].Stones[0]) || e != api.OK {
		t.Errorf("Find = %v, %d", s, e)
	}
	s.Anchors[0].Face = 1
	if b.Walls[1].Stones[0].Anchors[0].Face != 4 {
		t.Error("Find shares memory with its argument")
	}
	for _, names := range [][2]string{{"west", "c"}, {"east", "a"}, {"empty", "a"}, {"", ""}} {
		if s, e := cutlist.Find(b, names[0], names[1]); !reflect.DeepEqual(s, api.Stone{}) || e != api.ErrUnknown {
			t.Errorf("Find(%q) = %v, %d", names, s, e)
		}
	}
	b.Walls[0].Length = 50
	b.Walls[0].Stones = []api.Stone{{Name: "z", Size: api.Vec{X: 50, Y: 40, Z: 24}}, {Name: "zz", Course: 1, At: api.Vec{Z: 24}, Size: api.Vec{X: 50, Y: 40, Z: 25}}}
	totals, e := cutlist.Totals(b)
	want := []cutlist.Total{{api.Vec{X: 50, Y: 40, Z: 24}, 0, 1}, {api.Vec{X: 50, Y: 40, Z: 25}, 0, 2}, {api.Vec{X: 50, Y: 40, Z: 25}, 3, 1}}
	if !slices.Equal(totals, want) || e != api.OK {
		t.Errorf("Totals = %v, %d", totals, e)
	}
	if n, e := cutlist.Volume(b); n != 50*40*(24+25+25+25) || e != api.OK {
		t.Errorf("Volume = %d, %d", n, e)
	}
}

// P45.1
func TestEqual(t *testing.T) {
	changes := []func(b *api.Building){
		func(b *api.Building) { b.Name = "c" }, func(b *api.Building) { b.Profiles[0].Name = "c" }, func(b *api.Building) { b.Profiles[1].Outline[2].Y++ }, func(b *api.Building) { b.Profiles = b.Profiles[:1] },
		func(b *api.Building) { w := &b.Walls[1]; w.Name = "c" }, func(b *api.Building) { b.Walls[1].Lap++ }, func(b *api.Building) { b.Walls[1].Joint.Lo++ }, func(b *api.Building) { b.Walls[1].Joint.Hi++ }, func(b *api.Building) { b.Walls[0].Length++ }, func(b *api.Building) { b.Walls = b.Walls[1:] }, func(b *api.Building) { b.Walls[1].Stones = nil },
	}
	for _, change := range []func(s *api.Stone){
		func(s *api.Stone) { s.Name = "c" }, func(s *api.Stone) { s.Size.Z++ }, func(s *api.Stone) { s.Tol++ }, func(s *api.Stone) { s.At.Y++ }, func(s *api.Stone) { s.Course++ }, func(s *api.Stone) { s.Bed++ }, func(s *api.Stone) { s.Grade = "c" }, func(s *api.Stone) { s.Colour++ }, func(s *api.Stone) { s.Profile = "c" }, func(s *api.Stone) { s.Anchors[1].Edge++ }, func(s *api.Stone) { s.Anchors = nil },
	} {
		changes = append(changes, func(b *api.Building) { change(&b.Walls[1].Stones[0]) })
	}
	for i, change := range changes {
		b := building()
		change(&b)
		if cutlist.Equal(b, building()) || cutlist.Equal(building(), b) {
			t.Errorf("change %d does not matter", i)
		}
	}
	b := building()
	b.Walls[0].Stones, b.Walls[1].Stones[1].Anchors = []api.Stone{}, []api.Anchor{}
	if !cutlist.Equal(b, building()) || !cutlist.Equal(api.Building{}, api.Building{Walls: []api.Wall{}, Profiles: []api.Profile{}}) {
		t.Error("empty lists are not equal to nil")
	}
}

// P45.5: the order of the lines and of the kids does not matter, but for corners and anchors.
func TestOrderOfLines(t *testing.T) {
	r := rand.New(rand.NewSource(1))
	lines, _ := cutlist.Lines(building())
	for range 200 {
		shuffled := slices.Clone(lines)
		r.Shuffle(len(shuffled), func(i, k int) { shuffled[i], shuffled[k] = shuffled[k], shuffled[i] })
		for i := range shuffled {
			if parser.Word(shuffled[i]) != "wall" {
				continue
			}
			kids := slices.Clone(shuffled[i].Kids)
			slices.Reverse(kids)
			for k := range kids {
				kids[k].Kids = mixed(r, kids[k].Kids)
			}
			shuffled[i].Kids = kids
		}
		if b, f := cutlist.Build(shuffled); !cutlist.Equal(b, building()) || f != (api.Fault{}) {
			t.Fatalf("Build = %v, %v", b, f)
		}
	}
	if s, _ := cutlist.Source(building()); !lexer.Name("chapel") || !strings.HasPrefix(s, "building chapel\n") {
		t.Errorf("Source = %q", s)
	}
}

// mixed moves the anchors, in their order, between the other kids.
func mixed(r *rand.Rand, kids []api.Line) []api.Line {
	var anchors, others, all []api.Line
	for _, l := range kids {
		if parser.Word(l) == "anchor" {
			anchors = append(anchors, l)
		} else {
			others = append(others, l)
		}
	}
	r.Shuffle(len(others), func(i, k int) { others[i], others[k] = others[k], others[i] })
	for len(anchors)+len(others) > 0 {
		if len(others) == 0 || len(anchors) > 0 && r.Intn(2) == 0 {
			all, anchors = append(all, anchors[0]), anchors[1:]
		} else {
			all, others = append(all, others[0]), others[1:]
		}
	}
	return all
}
