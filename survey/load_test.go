package survey_test

import (
	"math/rand"
	"reflect"
	"slices"
	"strings"
	"testing"

	"gangsaw/api"
	"gangsaw/parser"
	"gangsaw/printer"
	"gangsaw/survey"
)

func fault(code api.Errno, line, col int) api.Fault {
	return api.Fault{Code: code, Line: line, Col: col}
}

// line is the first line of a source.
func line(t *testing.T, rows ...string) api.Line {
	t.Helper()
	lines, f := parser.Parse(strings.Join(rows, "\n"))
	if f.Code != api.OK {
		t.Fatalf("Parse(%q): %v", rows, f)
	}
	return lines[0]
}

const (
	pit   = "  pit 0 0 0 100 100 100"
	start = "survey:"
)

// P13.4
func TestLoad(t *testing.T) {
	for i, c := range []struct {
		rows []string
		want api.Survey
	}{
		{[]string{start, pit}, api.Survey{Pit: bx(0, 0, 0, 100, 100, 100)}},
		{[]string{start, "  joint j x 30 0 60", "  bed b 50", "  open south east", pit}, small()},
		{[]string{start, pit, "  open north", "  bed a 7", "  bed c 5", "  flaw g 0 9:", "    corner 1 1", "    corner 5 1", "    corner 1 5", "  joint k y 4 1 2"}, api.Survey{
			Pit: bx(0, 0, 0, 100, 100, 100), Open: [4]bool{2: true},
			Beds:   []api.Bed{{Name: "c", Z: 5}, {Name: "a", Z: 7}},
			Joints: []api.Joint{{Name: "k", Axis: api.AxisY, At: 4, Lo: 1, Hi: 2}},
			Flaws:  []api.Flaw{flaw("g", 0, 9, 1, 1, 5, 1, 1, 5)},
		}},
		{[]string{start, "  pit -1000000 -1000000 -1000000 1000000 1000000 1000000", "  open west north south east", "  bed west -1000000"}, api.Survey{
			Pit: bx(-top, -top, -top, top, top, top), Open: [4]bool{true, true, true, true}, Beds: []api.Bed{{Name: "west", Z: -top}},
		}},
		{[]string{"survey :  # x", "", "  flaw pit 3 4 :", "    # y", "    corner 0 0", "    corner 9 0", "    corner 0 9", pit, "  flaw open 3 4:", "    corner 5 5", "    corner 7 5", "    corner 7 7", "    corner 5 7", "  joint x x 1 0 5", "  joint corner y 1 0 5"}, api.Survey{
			Pit:    bx(0, 0, 0, 100, 100, 100),
			Joints: []api.Joint{{Name: "corner", Axis: api.AxisY, At: 1, Hi: 5}, {Name: "x", Axis: api.AxisX, At: 1, Hi: 5}},
			Flaws:  []api.Flaw{flaw("open", 3, 4, 5, 5, 7, 5, 7, 7, 5, 7), flaw("pit", 3, 4, 0, 0, 9, 0, 0, 9)},
		}},
	} {
		got, f := survey.Load(line(t, c.rows...))
		if !survey.Equal(got, c.want) || f != (api.Fault{}) {
			t.Errorf("%d: %v, %v", i, got, f)
		}
	}
}

// P13.4, P1: each fault, and which one comes first. The rows stand behind the survey's line, the number 1.
func TestLoadFaults(t *testing.T) {
	for i, c := range []struct {
		rows string
		want api.Fault
	}{
		{"", fault(api.ErrNone, 1, 1)},
		{"  bed b 5", fault(api.ErrNone, 1, 1)},
		{"  bed b 5000", fault(api.ErrNone, 1, 1)},
		{"  beds b 5", fault(api.ErrSyntax, 2, 3)},
		{"  corner 5 5", fault(api.ErrSyntax, 2, 3)},
		{"  survey", fault(api.ErrSyntax, 2, 3)},
		{"  5 b", fault(api.ErrSyntax, 2, 3)},
		{`  "pit" 0 0 0 100 100 100`, fault(api.ErrSyntax, 2, 3)},
		{"  note:\n    x", fault(api.ErrSyntax, 2, 3)},
		{pit + "\n" + pit, fault(api.ErrDuplicate, 3, 3)},
		{pit + "\n  pit 0 x", fault(api.ErrDuplicate, 3, 3)},
		{"  open east\n  open west", fault(api.ErrDuplicate, 3, 3)},
		{"  open east\n  open", fault(api.ErrDuplicate, 3, 3)},
		{"  pit x\n" + pit, fault(api.ErrSyntax, 2, 7)},
		{"  pit", fault(api.ErrSyntax, 2, 3)},
		{"  pit 0 0 0 100 100", fault(api.ErrSyntax, 2, 17)},
		{pit + " 5", fault(api.ErrSyntax, 2, 25)},
		{"  pit 0 0 x 100 100 100", fault(api.ErrSyntax, 2, 11)},
		{"  pit 0 0 0 100 100 1000001", fault(api.ErrRange, 2, 21)},
		{"  pit -1000001 0 x 100 100 100", fault(api.ErrRange, 2, 7)},
		{"  pit 0 x -1000001 100 100 100", fault(api.ErrSyntax, 2, 9)},
		{"  pit 1000000000000000", fault(api.ErrRange, 2, 7)},
		{pit + ":", fault(api.ErrSyntax, 2, 3)},
		{pit + ":\n    x", fault(api.ErrSyntax, 2, 3)},
		{pit + " 5:", fault(api.ErrSyntax, 2, 25)},
		{"  open", fault(api.ErrSyntax, 2, 3)},
		{"  open:", fault(api.ErrSyntax, 2, 3)},
		{"  open east:", fault(api.ErrSyntax, 2, 3)},
		{"  open up", fault(api.ErrSyntax, 2, 8)},
		{"  open 5", fault(api.ErrSyntax, 2, 8)},
		{`  open "east"`, fault(api.ErrSyntax, 2, 8)},
		{"  open east west east", fault(api.ErrDuplicate, 2, 18)},
		{"  open east west east up", fault(api.ErrDuplicate, 2, 18)},
		{"  open east up east", fault(api.ErrSyntax, 2, 13)},
		{"  open east, west", fault(api.ErrSyntax, 2, 12)},
		{"  open East", fault(api.ErrSyntax, 2, 8)},
		{"  bed", fault(api.ErrSyntax, 2, 3)},
		{"  bed b", fault(api.ErrSyntax, 2, 7)},
		{"  bed B", fault(api.ErrName, 2, 7)},
		{"  bed B x", fault(api.ErrName, 2, 7)},
		{"  bed B 5 x", fault(api.ErrName, 2, 7)},
		{"  bed aaaaaaaaaaaaaaaaaaaaaaaaa 5", fault(api.ErrName, 2, 7)},
		{"  bed 5 B", fault(api.ErrSyntax, 2, 7)},
		{`  bed "b" 5`, fault(api.ErrSyntax, 2, 7)},
		{"  bed b 1000001 x", fault(api.ErrRange, 2, 9)},
		{"  bed b 5 x", fault(api.ErrSyntax, 2, 11)},
		{"  bed b 5:", fault(api.ErrSyntax, 2, 3)},
		{"  bed b 5:\n    c", fault(api.ErrSyntax, 2, 3)},
		{"  joint j z 30 0 60", fault(api.ErrSyntax, 2, 11)},
		{"  joint j X 30 0 60", fault(api.ErrSyntax, 2, 11)},
		{"  joint J z 30 0 60", fault(api.ErrName, 2, 9)},
		{"  joint j x", fault(api.ErrSyntax, 2, 11)},
		{"  joint j x 30 0", fault(api.ErrSyntax, 2, 16)},
		{"  joint j x 30 0 60 5", fault(api.ErrSyntax, 2, 21)},
		{"  joint j x 30 1000001 60", fault(api.ErrRange, 2, 16)},
		{"  joint j x 30 0 -1000001", fault(api.ErrRange, 2, 18)},
		{"  joint j x 1000001 0 y", fault(api.ErrRange, 2, 13)},
		{"  joint j x 30 0 60:", fault(api.ErrSyntax, 2, 3)},
		{"  joint j y 30 60 0 :\n    q", fault(api.ErrSyntax, 2, 3)},
		{"  flaw f 0 5", fault(api.ErrSyntax, 2, 3)},
		{"  flaw f 0 5 6", fault(api.ErrSyntax, 2, 14)},
		{"  flaw f 0 5 6:", fault(api.ErrSyntax, 2, 14)},
		{"  flaw F 0 5", fault(api.ErrName, 2, 8)},
		{"  flaw f 0:", fault(api.ErrSyntax, 2, 10)},
		{"  flaw f 0 1000001:\n    x", fault(api.ErrRange, 2, 12)},
		{"  flaw f 0 5:\n    x", fault(api.ErrSyntax, 3, 5)},
		{"  flaw f 0 5:\n    5 5", fault(api.ErrSyntax, 3, 5)},
		{"  flaw f 0 5:\n    corner 1 1\n    corners 5 5\nx", fault(api.ErrSyntax, 4, 5)},
		{"  flaw f 0 5:\n    corner 1", fault(api.ErrSyntax, 3, 12)},
		{"  flaw f 0 5:\n    corner", fault(api.ErrSyntax, 3, 5)},
		{"  flaw f 0 5:\n    corner 1 1 1", fault(api.ErrSyntax, 3, 16)},
		{"  flaw f 0 5:\n    corner 1 a", fault(api.ErrSyntax, 3, 14)},
		{"  flaw f 0 5:\n    corner 1000001 a", fault(api.ErrRange, 3, 12)},
		{"  flaw f 0 5:\n    corner 1 -1000001 5", fault(api.ErrRange, 3, 14)},
		{"  flaw f 0 5:\n    corner 1 1:", fault(api.ErrSyntax, 3, 5)},
		{"  flaw f 0 5:\n    corner 1 1:\n      x", fault(api.ErrSyntax, 3, 5)},
		{"  flaw f 0 5:\n    corner 1 1 1:", fault(api.ErrSyntax, 3, 16)},
		{"  flaw f 0 5:\n    corner 1\n  x", fault(api.ErrSyntax, 3, 12)},
		{"  x\n  flaw f 0 5:\n    corner 1", fault(api.ErrSyntax, 2, 3)},
		// Behind the lines: what Check finds.
		{"  pit 0 0 0 100 0 100", fault(api.ErrInvalid, 1, 1)},
		{pit + "\n  joint j x 30 0 600", fault(api.ErrOutside, 1, 1)},
		{pit + "\n  bed b -1", fault(api.ErrOutside, 1, 1)},
		{pit + "\n  joint j x 30 60 0", fault(api.ErrInvalid, 1, 1)},
		{pit + "\n  bed b 5\n  bed c 5", fault(api.ErrDuplicate, 1, 1)},
		{pit + "\n  bed b 5\n  bed b 6", fault(api.ErrDuplicate, 1, 1)},
		{pit + "\n  joint b x 5 0 9\n  bed b 6", fault(api.ErrDuplicate, 1, 1)},
		{pit + "\n  joint b x 5 0 9\n  joint b x 6 0 9", fault(api.ErrDuplicate, 1, 1)},
		{pit + "\n  flaw f 0 5:", fault(api.ErrInvalid, 1, 1)},
		{pit + "\n  flaw f 0 5:\n    corner 1 1\n    corner 1 1\n    corner 5 5", fault(api.ErrDuplicate, 1, 1)},
		{pit + "\n  flaw f 0 5:\n    corner 1 1\n    corner 1 9\n    corner 5 5", fault(api.ErrConflict, 1, 1)},
		{pit + strings.Repeat("\n  bed b 5", 65), fault(api.ErrTooMany, 1, 1)},
		{pit + "\n  flaw f 0 5:" + strings.Repeat("\n    corner 5 5", 65), fault(api.ErrTooMany, 1, 1)},
	} {
		got, f := survey.Load(line(t, start, c.rows))
		if !survey.Equal(got, api.Survey{}) || f != c.want {
			t.Errorf("%d: Load(%q) = %v, want %v", i, c.rows, f, c.want)
		}
	}
}

// P13.4, P1: the survey's own line, and lines that no source has.
func TestLoadHeads(t *testing.T) {
	word := func(s string, at int) api.Token { return api.Token{Kind: api.TokWord, Text: s, At: at} }
	head := []api.Token{word("survey", 4)}
	kid := func(tokens ...api.Token) []api.Line { return []api.Line{{Tokens: tokens, At: 8}} }
	good := line(t, start, pit).Kids
	odd := line(t, start, pit).Kids
	odd[0].Kids = kid(head...)
	numbers := slices.Repeat([]api.Token{{Kind: api.TokNumber, N: 1 << 62, At: 5}}, 6)
	for i, c := range []struct {
		l    api.Line
		want api.Fault
	}{
		{line(t, start, "  bad"), fault(api.ErrSyntax, 2, 3)},
		{line(t, "survey"), fault(api.ErrSyntax, 1, 1)},
		{line(t, "surveys:", "  bad"), fault(api.ErrSyntax, 1, 1)},
		{line(t, "", "survey a:", "  bad"), fault(api.ErrSyntax, 2, 1)},
		{line(t, `"survey":`), fault(api.ErrSyntax, 1, 1)},
		{line(t, "pit 0 0 0 100 100 100"), fault(api.ErrSyntax, 1, 1)},
		{api.Line{}, fault(api.ErrSyntax, 0, 1)},
		{api.Line{Heading: true, At: 6, Kids: good}, fault(api.ErrSyntax, 6, 1)},
		{api.Line{Tokens: head, Kids: good, At: 6}, fault(api.ErrSyntax, 6, 4)},
		{api.Line{Tokens: []api.Token{{Kind: api.TokSign, Text: "survey", At: 9}}, Heading: true, Kids: good}, fault(api.ErrSyntax, 0, 9)},
		{api.Line{Tokens: head, Heading: true, At: 6}, fault(api.ErrNone, 6, 4)},
		{api.Line{Tokens: head, Heading: true, Kids: kid()}, fault(api.ErrSyntax, 8, 1)},
		{api.Line{Tokens: head, Heading: true, Kids: []api.Line{{Heading: true, At: -8}}}, fault(api.ErrSyntax, -8, 1)},
		{api.Line{Tokens: head, Heading: true, Kids: odd}, fault(api.ErrSyntax, 2, 3)},
		{api.Line{Tokens: head, Heading: true, Kids: kid(append([]api.Token{word("pit", 2)}, numbers...)...)}, fault(api.ErrRange, 8, 5)},
		{api.Line{Tokens: head, Heading: true, Kids: kid(word("open", 7), word("east", 7), word("", 6))}, fault(api.ErrSyntax, 8, 6)},
		{api.Line{Tokens: head, Heading: true, Kids: kid(word("bed", 7), word("b", -7), api.Token{Kind: 9, N: 1, At: 3})}, fault(api.ErrSyntax, 8, 3)},
		{api.Line{Tokens: head, Heading: true, Kids: []api.Line{{Tokens: line(t, "flaw f 0 5").Tokens, At: 3, Kids: kid(head...)}}}, fault(api.ErrSyntax, 3, 1)},
		{api.Line{Tokens: head, Heading: true, Kids: []api.Line{{Tokens: line(t, "flaw f 0 5").Tokens, At: 3, Heading: true, Kids: kid()}}}, fault(api.ErrSyntax, 8, 1)},
	} {
		if got, f := survey.Load(c.l); !survey.Equal(got, api.Survey{}) || f != c.want {
			t.Errorf("%d: %v, want %v", i, f, c.want)
		}
	}
}

// forget returns a line without numbers of lines and columns.
func forget(l api.Line) api.Line {
	l.At = 0
	l.Tokens = slices.Clone(l.Tokens)
	for i := range l.Tokens {
		l.Tokens[i].At = 0
	}
	l.Kids = slices.Clone(l.Kids)
	for i := range l.Kids {
		l.Kids[i] = forget(l.Kids[i])
	}
	return l
}

// P13.4
func TestLine(t *testing.T) {
	for i, c := range []struct {
		s    api.Survey
		rows []string
	}{
		{api.Survey{Pit: bx(-1, -2, -3, 4, 5, 6)}, []string{start, "  pit -1 -2 -3 4 5 6"}},
		{small(), []string{start, pit, "  open east south", "  bed b 50", "  joint j x 30 0 60"}},
		{rich(), []string{
			start, "  pit -50 -40 -30 150 160 170", "  open west north", "  bed zz -30", "  bed m 0", "  bed a 90", "  bed top 170",
			"  joint j1 x 30 0 60", "  joint j2 y -40 -30 170", "  joint j3 x 30 60 61", "  joint j4 x 150 20 40", "  joint j5 x 30 100 120", "  joint j6 y 30 0 100",
			"  flaw f1 0 20:", "    corner 0 0", "    corner 40 0", "    corner 0 40",
			"  flaw f2 -30 170:", "    corner -50 -40", "    corner 150 -40", "    corner 150 160", "    corner -50 160",
			"  flaw f3 20 30:", "    corner 60 60", "    corner 80 60", "    corner 80 80", "    corner 60 80",
		}},
	} {
		got, e := survey.Line(c.s)
		want := forget(line(t, c.rows...))
		if !reflect.DeepEqual(got, want) || e != api.OK {
			t.Errorf("%d: %v, %d", i, got, e)
		}
		s, e := printer.Print([]api.Line{got})
		if s != strings.Join(c.rows, "\n")+"\n" || e != api.OK {
			t.Errorf("%d: %q", i, s)
		}
		if back, f := survey.Load(got); !survey.Equal(back, c.s) || f != (api.Fault{}) {
			t.Errorf("%d: Load of the line: %v, %v", i, back, f)
		}
	}
	got, _ := survey.Line(rich())
	got.Kids[0].Tokens = append(got.Kids[0].Tokens, api.Token{})
	got.Kids[1].Tokens[0].Text = "q"
	if again, _ := survey.Line(rich()); again.Kids[1].Tokens[0].Text != "open" {
		t.Error("lines share memory")
	}
}

// P13.5: the order of the kids has no influence.
func TestOrderOfKids(t *testing.T) {
	r := rand.New(rand.NewSource(15))
	for range 500 {
		s := randomSurvey(r)
		l, e := survey.Line(s)
		if e != api.OK {
			t.Fatalf("%v: %d", s, e)
		}
		r.Shuffle(len(l.Kids), func(i, k int) { l.Kids[i], l.Kids[k] = l.Kids[k], l.Kids[i] })
		back, f := survey.Load(l)
		if !survey.Equal(back, s) || f != (api.Fault{}) {
			t.Fatalf("%v: Load = %v, %v", s, back, f)
		}
		if again, e := survey.Line(back); e != api.OK || len(again.Kids) != len(l.Kids) {
			t.Fatalf("%v: %v, %d", s, again, e)
		}
	}
}

// P1: a result shares no memory with the line.
func TestLoadSharesNothing(t *testing.T) {
	l, _ := survey.Line(rich())
	s, _ := survey.Load(l)
	s.Flaws[0].Prism.Base[0].X = 77
	s.Beds[0].Name = "q"
	want, _ := survey.Line(rich())
	if !reflect.DeepEqual(l, want) {
		t.Error("Load shares memory")
	}
}
