package parser_test

import (
	"math"
	"math/rand"
	"reflect"
	"slices"
	"strings"
	"testing"

	"gangsaw/api"
	"gangsaw/lexer"
	"gangsaw/parser"
)

func word(s string, at int) api.Token { return api.Token{Kind: api.TokWord, Text: s, At: at} }
func text(s string, at int) api.Token { return api.Token{Kind: api.TokText, Text: s, At: at} }
func sign(s string, at int) api.Token { return api.Token{Kind: api.TokSign, Text: s, At: at} }
func num(n int64, at int) api.Token   { return api.Token{Kind: api.TokNumber, N: n, At: at} }

func fault(code api.Errno, line, col int) api.Fault {
	return api.Fault{Code: code, Line: line, Col: col}
}

func source(rows ...string) string { return strings.Join(rows, "\n") + "\n" }

// tree parses rows that are allowed.
func tree(t *testing.T, rows ...string) []api.Line {
	t.Helper()
	lines, f := parser.Parse(source(rows...))
	if f.Code != api.OK {
		t.Fatalf("Parse(%q): %v", rows, f)
	}
	return lines
}

// row scans a line that is allowed, with a number.
func row(t *testing.T, s string, at int) api.Line {
	t.Helper()
	x, f := lexer.Scan(s)
	if f.Code != api.OK {
		t.Fatalf("Scan(%q): %v", s, f)
	}
	return api.Line{Tokens: x.Tokens, Heading: x.Heading, At: at}
}

// deep is a tree in which n lines lie within each other; the last one is the given one.
func deep(n int, last api.Line) []api.Line {
	for range n - 1 {
		last = api.Line{Tokens: []api.Token{word("h", 1)}, Heading: true, Kids: []api.Line{last}}
	}
	return []api.Line{last}
}

func single(heading bool, tokens ...api.Token) api.Line {
	return api.Line{Tokens: tokens, Heading: heading}
}

// P10.1, P10.2
func TestParse(t *testing.T) {
	lines := tree(t, "wall south:", "  stone a 100", "  stone b 120", "note")
	want := []api.Line{
		{Tokens: []api.Token{word("wall", 1), word("south", 6)}, Heading: true, At: 1, Kids: []api.Line{
			{Tokens: []api.Token{word("stone", 3), word("a", 9), num(100, 11)}, At: 2},
			{Tokens: []api.Token{word("stone", 3), word("b", 9), num(120, 11)}, At: 3},
		}},
		{Tokens: []api.Token{word("note", 1)}, At: 4},
	}
	if !reflect.DeepEqual(lines, want) {
		t.Errorf("Parse: %v", lines)
	}
	if m := parser.Measure(lines); m != (parser.Total{Lines: 4, Tokens: 9, Depth: 2}) {
		t.Errorf("Measure: %v", m)
	}
	lines = tree(t, "", "# x", "a:", "", "     # odd", "  b :  # heading", `    c "d e" = -5`, "  f", "g::", "  h:", "i", "", "")
	want = []api.Line{
		{Tokens: []api.Token{word("a", 1)}, Heading: true, At: 3, Kids: []api.Line{
			{Tokens: []api.Token{word("b", 3)}, Heading: true, At: 6, Kids: []api.Line{
				{Tokens: []api.Token{word("c", 5), text("d e", 7), sign("=", 13), num(-5, 15)}, At: 7},
			}},
			{Tokens: []api.Token{word("f", 3)}, At: 8},
		}},
		{Tokens: []api.Token{word("g", 1), sign(":", 2)}, Heading: true, At: 9, Kids: []api.Line{
			{Tokens: []api.Token{word("h", 3)}, Heading: true, At: 10},
		}},
		{Tokens: []api.Token{word("i", 1)}, At: 11},
	}
	if !reflect.DeepEqual(lines, want) {
		t.Errorf("Parse: %v", lines)
	}
	if m := parser.Measure(lines); m != (parser.Total{Lines: 7, Tokens: 11, Depth: 3}) {
		t.Errorf("Measure: %v", m)
	}
	for _, s := range []string{"", "\n", "#", "   \n \n# x\n", strings.Repeat("\n", api.MaxSource)} {
		if lines, f := parser.Parse(s); len(lines) != 0 || f != (api.Fault{}) {
			t.Errorf("Parse(%.20q) = %v, %v", s, lines, f)
		}
	}
}

// P10.1: the line without a break at its end, the deepest tree, and the longest source.
func TestParseEdges(t *testing.T) {
	var rows []string
	for d := range 7 {
		rows = append(rows, strings.Repeat("  ", d)+"h:")
	}
	lines, f := parser.Parse(strings.Join(rows, "\n"))
	if m := parser.Measure(lines); f != (api.Fault{}) || m != (parser.Total{Lines: 7, Tokens: 7, Depth: 7}) {
		t.Errorf("Parse: %v, %v", m, f)
	}
	if _, f := parser.Parse(source(append(rows, strings.Repeat("  ", 7)+"h")...)); f != fault(api.ErrTooMany, 8, 15) {
		t.Errorf("Parse: %v", f)
	}
	long := strings.Repeat("h\n", api.MaxSource/2)
	if lines, f := parser.Parse(long); len(lines) != api.MaxSource/2 || f != (api.Fault{}) || lines[len(lines)-1].At != api.MaxSource/2 {
		t.Errorf("Parse: %d, %v", len(lines), f)
	}
	for _, s := range []string{long + "h", "?" + long, strings.Repeat(" ", api.MaxSource+1)} {
		if lines, f := parser.Parse(s); lines != nil || f != fault(api.ErrTooMany, 1, 1) {
			t.Errorf("Parse: %v", f)
		}
	}
}

// P10.1, P1
func TestParseFaults(t *testing.T) {
	for _, c := range []struct {
		rows []string
		want api.Fault
	}{
		{[]string{"note", "  stone a"}, fault(api.ErrSyntax, 2, 3)},
		{[]string{"  a"}, fault(api.ErrSyntax, 1, 3)},
		{[]string{"", "# x", "  a:"}, fault(api.ErrSyntax, 3, 3)},
		{[]string{"a:", "    b"}, fault(api.ErrSyntax, 2, 5)},
		{[]string{"a:", "  b", "    c"}, fault(api.ErrSyntax, 3, 5)},
		{[]string{"a:", "", "  b:", "c", "    d"}, fault(api.ErrSyntax, 5, 5)},
		{[]string{"a:", "  b:", "c", "  d"}, fault(api.ErrSyntax, 4, 3)},
		{[]string{"a", " b"}, fault(api.ErrSyntax, 2, 2)},
		{[]string{"a", "  ?"}, fault(api.ErrSyntax, 2, 3)},
		{[]string{"a", "  1000000000000001"}, fault(api.ErrRange, 2, 3)},
		{[]string{"a:", `  b ""`, "      c"}, fault(api.ErrName, 2, 5)},
		{[]string{"a", "  b", "?"}, fault(api.ErrSyntax, 2, 3)},
		{[]string{"a", "", ":"}, fault(api.ErrSyntax, 3, 1)},
		{[]string{"a", strings.Repeat("#", 1001)}, fault(api.ErrTooMany, 2, 1001)},
		{[]string{"a", strings.Repeat("a ", 65)}, fault(api.ErrTooMany, 2, 129)},
		{[]string{"a", strings.Repeat("  ", 7) + "b"}, fault(api.ErrTooMany, 2, 15)},
	} {
		if lines, f := parser.Parse(source(c.rows...)); lines != nil || f != c.want {
			t.Errorf("Parse(%q) = %v, %v, want %v", c.rows, lines, f, c.want)
		}
	}
}

// flat lists the lines of a tree in the order of a walk, with their depths.
func flat(lines []api.Line, depth int) []api.Line {
	var list []api.Line
	for _, l := range lines {
		kids := l.Kids
		l.Kids = make([]api.Line, depth)
		list = append(append(list, l), flat(kids, depth+1)...)
	}
	return list
}

// wanted finds the lines of rows, with their depths, or the first fault, without a stack.
func wanted(rows []string) ([]api.Line, api.Fault) {
	var list []api.Line
	most := 0
	for i, r := range rows {
		s, f := lexer.Scan(r)
		if f.Code != api.OK {
			return nil, fault(f.Code, i+1, f.Col)
		}
		if len(s.Tokens) == 0 {
			continue
		}
		if s.Indent > most {
			return nil, fault(api.ErrSyntax, i+1, 2*s.Indent+1)
		}
		most = s.Indent
		if s.Heading {
			most++
		}
		list = append(list, api.Line{Tokens: s.Tokens, Heading: s.Heading, Kids: make([]api.Line, s.Indent), At: i + 1})
	}
	return list, api.Fault{}
}

func randomRows(r *rand.Rand) []string {
	rows := make([]string, r.Intn(14))
	depth := 0
	for i := range rows {
		ends := []string{"", ":", ":", " :  # x", " 5"}
		switch r.Intn(12) {
		case 0:
			rows[i] = strings.Repeat(" ", r.Intn(5)) + "# x"
			continue
		case 1:
			depth += r.Intn(2)
		case 2:
			rows[i] = "?"
		}
		end := ends[r.Intn(len(ends))]
		rows[i] += strings.Repeat("  ", depth) + "a b" + end
		if strings.HasPrefix(end, ":") || strings.HasPrefix(end, " :") {
			depth++
		}
		depth -= min(depth, r.Intn(3))
	}
	return rows
}

// P10.1, P10.5: random sources, and what a source without its last lines has.
func TestParseRandomly(t *testing.T) {
	r := rand.New(rand.NewSource(10))
	good := 0
	for range 5000 {
		rows := randomRows(r)
		lines, f := parser.Parse(source(rows...))
		want, g := wanted(rows)
		if f != g || !reflect.DeepEqual(flat(lines, 0), want) {
			t.Fatalf("Parse(%q) = %v, %v, want %v, %v", rows, lines, f, want, g)
		}
		if f.Code == api.OK {
			good++
			if e := parser.Check(lines); e != api.OK {
				t.Fatalf("Check of %q: %d", rows, e)
			}
		}
		for n := range rows {
			if _, p := parser.Parse(source(rows[:n]...)); p != (api.Fault{}) && p != f {
				t.Fatalf("Parse(%q): %v, of its begin: %v", rows, f, p)
			}
		}
		var loose []string
		for _, x := range rows {
			loose = append(loose, "", "   # y", x+"   #z:")
		}
		more, m := parser.Parse(source(loose...))
		if !parser.Same(more, lines) || (f.Code == api.OK) != (m.Code == api.OK) {
			t.Fatalf("Parse(%q) = %v, %v", loose, more, m)
		}
	}
	if good < 500 || good > 4500 {
		t.Errorf("%d sources are allowed", good)
	}
}

// P10.1: no two slices of a tree share memory.
func TestParseSharesNothing(t *testing.T) {
	lines := tree(t, "a x:", "  b y:", "    c z", "  d", "e:", "  f")
	var change func(list []api.Line) []api.Line
	change = func(list []api.Line) []api.Line {
		for i := range list {
			list[i].Tokens = append(list[i].Tokens, word("new", 9))
			list[i].Tokens[0].Text += "q"
			list[i].Kids = change(list[i].Kids)
		}
		return append(list, single(false, word("last", 1)))
	}
	lines = change(lines)
	want := []string{"aq x new", "bq y new", "cq z new", "last", "last", "dq new", "last", "last", "eq new", "fq new", "last", "last", "last"}
	var got []string
	for _, l := range flat(lines, 0) {
		var words []string
		for _, x := range l.Tokens {
			words = append(words, x.Text)
		}
		got = append(got, strings.Join(words, " "))
	}
	if !slices.Equal(got, want) {
		t.Errorf("%q", got)
	}
}

// P10.2
func TestCheck(t *testing.T) {
	a, colon := word("a", 0), sign(":", 0)
	kid := []api.Line{single(false, a)}
	tokens := func(n int) []api.Token { return slices.Repeat([]api.Token{a}, n) }
	within := func(l api.Line) []api.Line {
		return []api.Line{single(false, a), {Tokens: tokens(1), Heading: true, Kids: []api.Line{l}}}
	}
	for i, c := range []struct {
		lines []api.Line
		want  api.Errno
	}{
		{nil, api.OK},
		{[]api.Line{}, api.OK},
		{[]api.Line{single(false, a)}, api.OK},
		{[]api.Line{single(true, a)}, api.OK},
		{[]api.Line{single(true, colon)}, api.OK},
		{[]api.Line{single(false, colon, a)}, api.OK},
		{[]api.Line{single(true, a, colon)}, api.OK},
		{[]api.Line{single(false, a, text(":", 0))}, api.OK},
		{[]api.Line{single(false, word("a", -9), num(-5, 1<<40))}, api.OK},
		{[]api.Line{single(false, tokens(64)...)}, api.OK},
		{[]api.Line{single(true, tokens(63)...)}, api.OK},
		{deep(7, single(true, a)), api.OK},
		{[]api.Line{{}}, api.ErrInvalid},
		{[]api.Line{{Heading: true}}, api.ErrInvalid},
		{[]api.Line{single(false, api.Token{})}, api.ErrInvalid},
		{[]api.Line{single(false, a, num(1<<60, 1), a)}, api.ErrInvalid},
		{[]api.Line{single(true, word("9", 1))}, api.ErrInvalid},
		{[]api.Line{single(false, a, colon)}, api.ErrInvalid},
		{[]api.Line{single(false, colon)}, api.ErrInvalid},
		{[]api.Line{{Tokens: tokens(1), Kids: kid}}, api.ErrInvalid},
		{[]api.Line{single(false, tokens(65)...)}, api.ErrTooMany},
		{[]api.Line{single(true, tokens(64)...)}, api.ErrTooMany},
		{deep(8, single(false, a)), api.ErrTooMany},
		{deep(5000, single(false, a)), api.ErrTooMany},
		{deep(8, single(false, a, colon)), api.ErrInvalid},
		{deep(5000, api.Line{}), api.ErrInvalid},
		{[]api.Line{single(false, tokens(65)...), {}}, api.ErrInvalid},
		{[]api.Line{single(false, append(tokens(70), colon)...)}, api.ErrInvalid},
	} {
		if got := parser.Check(c.lines); got != c.want {
			t.Errorf("%d: Check = %d, want %d", i, got, c.want)
		}
		if len(c.lines) == 1 && len(c.lines[0].Kids) == 0 {
			if got := parser.Check(within(c.lines[0])); got != c.want {
				t.Errorf("%d: Check of a kid = %d, want %d", i, got, c.want)
			}
		}
	}
}

// P10.2
func TestMeasure(t *testing.T) {
	for i, c := range []struct {
		lines []api.Line
		want  parser.Total
	}{
		{nil, parser.Total{}},
		{[]api.Line{{}}, parser.Total{Lines: 1, Depth: 1}},
		{[]api.Line{{Kids: []api.Line{{}, {Kids: []api.Line{{Tokens: make([]api.Token, 3)}}}}}, {Tokens: make([]api.Token, 100)}}, parser.Total{Lines: 5, Tokens: 103, Depth: 3}},
		{deep(3000, api.Line{}), parser.Total{Lines: 3000, Tokens: 2999, Depth: 3000}},
	} {
		if got := parser.Measure(c.lines); got != c.want {
			t.Errorf("%d: %v", i, got)
		}
	}
}

// P10.2
func TestSame(t *testing.T) {
	base := func() []api.Line { return tree(t, "a 5:", "  b (", "    # x", `  c "d":`, "    e", "f") }
	other := tree(t, "", "a   5 :", "  b  (  # y", `  c "d" :`, "    e", "", "f")
	if !parser.Same(base(), other) || !parser.Same(other, base()) || !parser.Same(nil, []api.Line{}) {
		t.Error("trees with other columns and numbers are not the same")
	}
	empty := []api.Line{{Tokens: []api.Token{}, Kids: []api.Line{}}}
	if !parser.Same(empty, []api.Line{{}}) || parser.Same(empty, nil) {
		t.Error("Same of empty lists")
	}
	for i, change := range []func(x []api.Line) []api.Line{
		func(x []api.Line) []api.Line { return x[:1] },
		func(x []api.Line) []api.Line { return append(x, x[1]) },
		func(x []api.Line) []api.Line { return []api.Line{x[1], x[0]} },
		func(x []api.Line) []api.Line { x[0].Tokens[0].Text = "b"; return x },
		func(x []api.Line) []api.Line { x[0].Tokens[0].Kind = api.TokText; return x },
		func(x []api.Line) []api.Line { x[0].Tokens[1].N = 6; return x },
		func(x []api.Line) []api.Line { x[0].Tokens = x[0].Tokens[:1]; return x },
		func(x []api.Line) []api.Line { x[1].Heading = true; return x },
		func(x []api.Line) []api.Line { x[0].Kids = x[0].Kids[:1]; return x },
		func(x []api.Line) []api.Line { x[0].Kids[1].Kids[0].Tokens[0].Text = "E"; return x },
		func(x []api.Line) []api.Line { x[0].Kids[1].Kids[0].Heading = true; return x },
		func(x []api.Line) []api.Line { x[0].Kids[1].Kids = nil; return x },
	} {
		if x := change(base()); parser.Same(base(), x) || parser.Same(x, base()) {
			t.Errorf("%d: the same as %v", i, x)
		}
	}
}

// P10.3
func TestWordAndPick(t *testing.T) {
	for i, c := range []struct {
		l    api.Line
		want string
	}{
		{api.Line{}, ""}, {single(false, word("stone", 1), word("a", 2)), "stone"}, {single(true, text("a", 1)), ""}, {single(false, num(5, 1), word("a", 2)), ""}, {single(false, sign("(", 1)), ""}, {single(false, api.Token{Text: "a"}), ""},
	} {
		if got := parser.Word(c.l); got != c.want {
			t.Errorf("%d: %q", i, got)
		}
	}
	lines := tree(t, "a 1:", "  b 2", "b 3:", "  a 4:", "    b 5", `"b" 6`, "B 7", "5", "b 8")
	before := tree(t, "a 1:", "  b 2", "b 3:", "  a 4:", "    b 5", `"b" 6`, "B 7", "5", "b 8")
	if got := parser.Pick(lines, "b"); !reflect.DeepEqual(got, []api.Line{lines[1], lines[5]}) {
		t.Errorf("Pick: %v", got)
	}
	if got := parser.Pick(lines, ""); !reflect.DeepEqual(got, []api.Line{lines[2], lines[4]}) {
		t.Errorf("Pick: %v", got)
	}
	if got := parser.Pick(lines, "c"); len(got) != 0 {
		t.Errorf("Pick: %v", got)
	}
	if got := parser.Pick(nil, ""); len(got) != 0 {
		t.Errorf("Pick: %v", got)
	}
	picked := parser.Pick(lines, "b")
	picked[0].Tokens[0].Text = "x"
	picked[0].Kids[0].Tokens[0].Text = "x"
	picked[0].Kids[0].Kids[0].Tokens[0].Text = "x"
	picked[0].Kids[0].Kids[0].At = 77
	if !reflect.DeepEqual(lines, before) {
		t.Errorf("Pick shares memory: %v", lines)
	}
}

// P10.3
func TestOnly(t *testing.T) {
	lines := tree(t, "# x", "  # y", "a 1:", "  c 2", "b 3:", "  d", "a")
	for i, c := range []struct {
		lines []api.Line
		words []string
		want  api.Fault
	}{
		{nil, nil, api.Fault{}},
		{nil, []string{"a"}, api.Fault{}},
		{lines, []string{"b", "a", "z"}, api.Fault{}},
		{lines, []string{"a", "c", "d"}, fault(api.ErrSyntax, 5, 1)},
		{lines, []string{"b"}, fault(api.ErrSyntax, 3, 1)},
		{lines, nil, fault(api.ErrSyntax, 3, 1)},
		{lines[0].Kids, []string{"a", "b"}, fault(api.ErrSyntax, 4, 3)},
		{tree(t, "", `"a" b`), []string{"a"}, fault(api.ErrSyntax, 2, 1)},
		{tree(t, "(a"), []string{"(", "a"}, fault(api.ErrSyntax, 1, 1)},
		{tree(t, "5 a"), []string{"", "a", "5"}, fault(api.ErrSyntax, 1, 1)},
		{[]api.Line{{At: 9}}, []string{"", "a"}, fault(api.ErrSyntax, 9, 1)},
	} {
		if got := parser.Only(c.lines, c.words); got != c.want {
			t.Errorf("%d: %v, want %v", i, got, c.want)
		}
	}
}

// P10.4
func TestShape(t *testing.T) {
	stone := row(t, "stone a 100", 7)
	mixed := row(t, `(x , "t u" -5 Y`, 3)
	for i, c := range []struct {
		l       api.Line
		pattern string
		want    api.Fault
	}{
		{stone, "stone NAME NUMBER", api.Fault{}},
		{stone, "WORD WORD NUMBER", api.Fault{}},
		{stone, "ANY ANY ANY", api.Fault{}},
		{stone, "ANY*", api.Fault{}},
		{stone, "ANY+", api.Fault{}},
		{stone, "stone NAME NUMBER+", api.Fault{}},
		{stone, "stone NAME NUMBER*", api.Fault{}},
		{stone, "stone NAME NUMBER NUMBER*", api.Fault{}},
		{stone, "stone NAME NUMBER NUMBER+", fault(api.ErrSyntax, 7, 9)},
		{stone, "stone NAME", fault(api.ErrSyntax, 7, 9)},
		{stone, "stone NAME NUMBER NUMBER", fault(api.ErrSyntax, 7, 9)},
		{stone, "stone NAME*", fault(api.ErrSyntax, 7, 9)},
		{stone, "stone", fault(api.ErrSyntax, 7, 7)},
		{stone, "stones NAME NUMBER", fault(api.ErrSyntax, 7, 1)},
		{stone, "stone TEXT NUMBER", fault(api.ErrSyntax, 7, 7)},
		{stone, "stone a NUMBER", api.Fault{}},
		{stone, "stone b NUMBER", fault(api.ErrSyntax, 7, 7)},
		{stone, "stone a 100", fault(api.ErrSyntax, 7, 9)},
		{stone, "stone* NAME NUMBER", fault(api.ErrSyntax, 7, 1)},
		{stone, "stone NAME number", fault(api.ErrSyntax, 7, 9)},
		{stone, "name word NUMBER", fault(api.ErrSyntax, 7, 1)},
		{stone, "", fault(api.ErrSyntax, 7, 1)},
		{mixed, "( WORD , TEXT NUMBER WORD", api.Fault{}},
		{mixed, "( NAME , TEXT NUMBER NAME", fault(api.ErrName, 3, 15)},
		{mixed, "( NAME , TEXT NUMBER NAME NAME", fault(api.ErrName, 3, 15)},
		{mixed, "( NAME , TEXT WORD NAME", fault(api.ErrSyntax, 3, 12)},
		{mixed, "( TEXT , TEXT NUMBER NAME", fault(api.ErrSyntax, 3, 2)},
		{mixed, "WORD WORD , TEXT NUMBER NAME", fault(api.ErrSyntax, 3, 1)},
		{mixed, "( WORD ANY ANY ANY ANY", api.Fault{}},
		{row(t, "stone A", 1), "stone NAME", fault(api.ErrName, 1, 7)},
		{row(t, "stone A", 1), "stone NAME NUMBER", fault(api.ErrName, 1, 7)},
		{row(t, "stone A 5", 1), "stone NAME", fault(api.ErrName, 1, 7)},
		{row(t, "stone 5 A", 1), "stone NAME NAME", fault(api.ErrSyntax, 1, 7)},
		{row(t, "a B c D", 1), "NAME+", fault(api.ErrName, 1, 3)},
		{row(t, "a b 5 D", 1), "NAME*", fault(api.ErrSyntax, 1, 5)},
		{row(t, "= = =", 1), "=+", api.Fault{}},
		{row(t, "= = +", 1), "=*", fault(api.ErrSyntax, 1, 5)},
		{row(t, "+", 1), "+", api.Fault{}},
		{row(t, "+ +", 1), "+", fault(api.ErrSyntax, 1, 3)},
		{row(t, "+ + +", 1), "++", api.Fault{}},
		{row(t, "+ +", 1), "+*", api.Fault{}},
		{row(t, "+", 1), "*", fault(api.ErrSyntax, 1, 1)},
		{row(t, "+", 1), "**", fault(api.ErrSyntax, 1, 1)},
		{row(t, "a +", 1), "a + b*", api.Fault{}},
		{row(t, "a b b:", 1), "a b+", api.Fault{}},
		{row(t, "a", 4), "a b+", fault(api.ErrSyntax, 4, 1)},
		{row(t, "a", 4), "a b*", api.Fault{}},
		{row(t, "a NUMBER", 4), "a WORD", api.Fault{}},
		{row(t, "a NUMBER", 4), "a NUMBER", fault(api.ErrSyntax, 4, 3)},
		{api.Line{At: 5}, "", api.Fault{}},
		{api.Line{At: 5}, "ANY*", api.Fault{}},
		{api.Line{At: 5}, "ANY+", fault(api.ErrSyntax, 5, 1)},
		{api.Line{At: 5}, "a", fault(api.ErrSyntax, 5, 1)},
	} {
		if got := parser.Shape(c.l, strings.Fields(c.pattern)); got != c.want {
			t.Errorf("%d: Shape(%q) = %v, want %v", i, c.pattern, got, c.want)
		}
	}
	pattern := []string{"stone", "NAME", "NUMBER+"}
	parser.Shape(stone, pattern)
	if pattern[2] != "NUMBER+" {
		t.Error("Shape changes the pattern")
	}
	// Strings that are no pattern of the document's: no token has them.
	for _, p := range []string{"\xff*", "\u00e9", "a\xc3+", ""} {
		if f := parser.Shape(stone, []string{p}); f != fault(api.ErrSyntax, 7, 1) {
			t.Errorf("Shape(%q) = %v", p, f)
		}
	}
	if f := parser.Shape(single(false, word("\xf0", 4), word("\xf0", 5)), []string{"\xf0+"}); f != (api.Fault{}) {
		t.Errorf("Shape: %v", f)
	}
}

// P10.4
func TestBad(t *testing.T) {
	l := row(t, "stone a 100", 7)
	for token, col := range map[int]int{0: 1, 1: 7, 2: 9, 3: 9, -1: 9, 99: 9, math.MaxInt: 9, math.MinInt: 9} {
		if got := parser.Bad(api.ErrRange, l, token); got != fault(api.ErrRange, 7, col) {
			t.Errorf("Bad(%d) = %v", token, got)
		}
		if got := parser.Bad(api.Errno(-3), api.Line{At: -2}, token); got != fault(-3, -2, 1) {
			t.Errorf("Bad(%d) = %v", token, got)
		}
	}
}

// P1: lines that no source has.
func TestOddLines(t *testing.T) {
	odd := deep(2000, api.Line{Tokens: []api.Token{{Kind: -1, Text: "\x00", N: math.MinInt64, At: math.MinInt}}, At: -1})
	if !parser.Same(odd, odd) || parser.Check(odd) != api.ErrInvalid {
		t.Error("odd lines")
	}
	if got := parser.Pick(odd, "h"); !reflect.DeepEqual(got, odd) {
		t.Error("Pick of odd lines")
	}
	if f := parser.Shape(single(false, api.Token{Kind: 9, Text: "a", At: 3}), []string{"a"}); f != fault(api.ErrSyntax, 0, 3) {
		t.Errorf("Shape: %v", f)
	}
	if f := parser.Shape(single(false, api.Token{Kind: 9, Text: "a", At: 3}), []string{"ANY"}); f != (api.Fault{}) {
		t.Errorf("Shape: %v", f)
	}
}
