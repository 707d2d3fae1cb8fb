package boring_test

import (
	"math/rand"
	"reflect"
	"slices"
	"strings"
	"testing"

	"gangsaw/api"
	"gangsaw/boring"
	"gangsaw/parser"
	"gangsaw/printer"
)

func fault(code api.Errno, line, col int) api.Fault {
	return api.Fault{Code: code, Line: line, Col: col}
}

// line is the first line of a source.
func line(t *testing.T, rows ...string) api.Line {
	t.Helper()
	lines, f := parser.Parse(strings.Join(rows, "\n"))
	if f.Code != api.OK {
		t.Fatalf("Parse(%q): %v", rows, f)
	}
	return lines[0]
}

// P14.5
func TestLoad(t *testing.T) {
	for i, c := range []struct {
		rows []string
		want api.Boring
	}{
		{[]string{"boring b1 at 5 5:", "  sound 0 10", "  sound 10 20", "", "  flawed 25 30  # x"}, usual()},
		{[]string{"boring b1 at -7 8 :"}, at(-7, 8)},
		{[]string{"boring at at -1000000 999999:", "  flawed -1000000 0", "  sound 0 1000000"}, api.Boring{Name: "at", At: api.Point{X: -top, Y: top - 1}, Logs: []api.Log{flawed(-top, 0), sound(0, top)}}},
	} {
		if got, f := boring.Load(line(t, c.rows...)); !same(got, c.want) || f != (api.Fault{}) {
			t.Errorf("%d: %v, %v", i, got, f)
		}
	}
}

// P14.5, P1: each fault, and which one comes first.
func TestLoadFaults(t *testing.T) {
	const head = "boring b1 at 5 5:\n"
	for i, c := range []struct {
		rows string
		want api.Fault
	}{
		{"borings b1 at 5 5:", fault(api.ErrSyntax, 1, 1)},
		{"\n5", fault(api.ErrSyntax, 2, 1)},
		{`"boring" b1 at 5 5:`, fault(api.ErrSyntax, 1, 1)},
		{"boring:", fault(api.ErrSyntax, 1, 1)},
		{"boring b1:", fault(api.ErrSyntax, 1, 8)},
		{"boring B at 5 5:", fault(api.ErrName, 1, 8)},
		{"boring B at x 5:", fault(api.ErrName, 1, 8)},
		{"boring B at 5 5", fault(api.ErrName, 1, 8)},
		{"boring 5 at 5 5:", fault(api.ErrSyntax, 1, 8)},
		{"boring b1 in 5 5:", fault(api.ErrSyntax, 1, 11)},
		{"boring b1 at 5:", fault(api.ErrSyntax, 1, 14)},
		{"boring b1 at 5 5 5:", fault(api.ErrSyntax, 1, 18)},
		{"boring b1 at 5 x", fault(api.ErrSyntax, 1, 16)},
		{"boring b1 at 1000001 x:", fault(api.ErrSyntax, 1, 22)},
		{"boring b1 at 1000001 5:\n  x", fault(api.ErrRange, 1, 14)},
		{"boring b1 at 1000001 5", fault(api.ErrRange, 1, 14)},
		{"boring b1 at 5 -1000001:", fault(api.ErrRange, 1, 16)},
		{"boring b1 at 5 5", fault(api.ErrSyntax, 1, 1)},
		{"\nboring b1 at 1000000 5", fault(api.ErrSyntax, 2, 1)},
		{head + "  x 0 5", fault(api.ErrSyntax, 2, 3)},
		{head + "  unseen 0 5", fault(api.ErrSyntax, 2, 3)},
		{head + "  5 0 5", fault(api.ErrSyntax, 2, 3)},
		{head + `  "sound" 0 5`, fault(api.ErrSyntax, 2, 3)},
		{head + "  sound 0 5:", fault(api.ErrSyntax, 2, 3)},
		{head + "  sound 0:", fault(api.ErrSyntax, 2, 3)},
		{head + "  sound 0 1000001:\n    x", fault(api.ErrSyntax, 2, 3)},
		{head + "  sound", fault(api.ErrSyntax, 2, 3)},
		{head + "  sound 0", fault(api.ErrSyntax, 2, 9)},
		{head + "  flawed 0 5 6", fault(api.ErrSyntax, 2, 14)},
		{head + "  flawed 0 x", fault(api.ErrSyntax, 2, 12)},
		{head + "  flawed 1000001 x", fault(api.ErrSyntax, 2, 18)},
		{head + "  flawed 1000001 -1000001", fault(api.ErrRange, 2, 10)},
		{head + "  sound 5 1000000000000000\n  x", fault(api.ErrRange, 2, 11)},
		{head + "  sound 0 5\n  sound 5\n  x", fault(api.ErrSyntax, 3, 9)},
		{head + "  sound 0 5\n  x\n  sound 5", fault(api.ErrSyntax, 3, 3)},
		{head + "  sound 5 0\n  sound 5", fault(api.ErrSyntax, 3, 9)},
		// Behind the lines: the error of the formed boring.
		{head + strings.Repeat("  sound 5 0\n", 65), fault(api.ErrTooMany, 1, 1)},
		{head + "  sound 5 5", fault(api.ErrInvalid, 1, 1)},
		{head + "  sound 5 9\n  flawed 8 9", fault(api.ErrOverlap, 1, 1)},
		{head + "  sound 5 9\n  sound 0 5", fault(api.ErrOverlap, 1, 1)},
		{"\nboring b1 at 1000000 5:", fault(api.ErrRange, 2, 1)},
		{"boring b1 at 5 1000000:\n  sound 0 5\n  sound 4 6", fault(api.ErrRange, 1, 1)},
		{"boring b1 at 5 1000000:\n  sound 5 0", fault(api.ErrInvalid, 1, 1)},
	} {
		if got, f := boring.Load(line(t, c.rows)); !same(got, api.Boring{}) || f != c.want {
			t.Errorf("%d: Load(%q) = %v, want %v", i, c.rows, f, c.want)
		}
	}
}

// P1: lines that no source has.
func TestLoadOddLines(t *testing.T) {
	head := line(t, "boring b1 at 5 5:", "  sound 0 5")
	with := func(kid api.Line) api.Line {
		l := head
		l.Kids = append(slices.Clone(l.Kids), kid)
		return l
	}
	noHeading := head
	noHeading.Heading, noHeading.At = false, 9
	far := head.Kids[0]
	far.Tokens = slices.Clone(far.Tokens)
	far.Tokens[2].N, far.Tokens[2].At = -1<<63, 77
	for i, c := range []struct {
		l    api.Line
		want api.Fault
	}{
		{api.Line{}, fault(api.ErrSyntax, 0, 1)},
		{api.Line{Heading: true, At: -3}, fault(api.ErrSyntax, -3, 1)},
		{noHeading, fault(api.ErrSyntax, 9, 1)},
		{with(api.Line{At: 4}), fault(api.ErrSyntax, 4, 1)},
		{with(api.Line{Tokens: head.Kids[0].Tokens, At: 4, Kids: head.Kids}), fault(api.ErrSyntax, 4, 3)},
		{with(api.Line{Tokens: head.Kids[0].Tokens, At: 4, Heading: true}), fault(api.ErrSyntax, 4, 3)},
		{with(far), fault(api.ErrRange, 2, 77)},
	} {
		if got, f := boring.Load(c.l); !same(got, api.Boring{}) || f != c.want {
			t.Errorf("%d: %v, want %v", i, f, c.want)
		}
	}
}

// P14.5, P14.6
func TestLine(t *testing.T) {
	for i, c := range []struct {
		b    api.Boring
		want string
	}{
		{usual(), "boring b1 at 5 5:\n  sound 0 10\n  sound 10 20\n  flawed 25 30\n"},
		{at(-top, top-1), "boring b1 at -1000000 999999:\n"},
	} {
		got, e := boring.Line(c.b)
		if e != api.OK || got.At != 0 || !got.Heading {
			t.Errorf("%d: %v, %d", i, got, e)
		}
		numbered := func(t api.Token) bool { return t.At != 0 }
		for _, l := range append(got.Kids, got) {
			if l.At != 0 || slices.ContainsFunc(l.Tokens, numbered) {
				t.Errorf("%d: %v", i, l)
			}
		}
		if s, e := printer.Print([]api.Line{got}); s != c.want || e != api.OK {
			t.Errorf("%d: %q, %d", i, s, e)
		}
	}
	r := rand.New(rand.NewSource(16))
	for range 500 {
		b := randomBoring(r)
		l, e := boring.Line(b)
		back, f := boring.Load(l)
		if e != api.OK || f != (api.Fault{}) || !same(back, b) {
			t.Fatalf("%v: Line %d, Load %v, %v", b, e, back, f)
		}
		if again, _ := boring.Line(back); !reflect.DeepEqual(again, l) {
			t.Fatalf("%v: %v, then %v", b, l, again)
		}
	}
}
