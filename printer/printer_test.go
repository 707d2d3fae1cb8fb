package printer_test

import (
	"math/rand"
	"reflect"
	"slices"
	"strings"
	"testing"

	"gangsaw/api"
	"gangsaw/lexer"
	"gangsaw/parser"
	"gangsaw/printer"
)

func word(s string) api.Token { return api.Token{Kind: api.TokWord, Text: s} }
func text(s string) api.Token { return api.Token{Kind: api.TokText, Text: s} }
func sign(s string) api.Token { return api.Token{Kind: api.TokSign, Text: s} }
func num(n int64) api.Token   { return api.Token{Kind: api.TokNumber, N: n} }

func line(tokens ...api.Token) api.Line { return api.Line{Tokens: tokens} }

func heading(l api.Line, kids ...api.Line) api.Line {
	return api.Line{Tokens: l.Tokens, Heading: true, Kids: kids}
}

func source(rows ...string) string { return strings.Join(rows, "\n") + "\n" }

func tree(t *testing.T, rows ...string) []api.Line {
	t.Helper()
	lines, f := parser.Parse(source(rows...))
	if f.Code != api.OK {
		t.Fatalf("Parse(%q): %v", rows, f)
	}
	return lines
}

// wide is a line of the given number of bytes, if it lies within nothing; n is at least 200.
func wide(n int) api.Line {
	var l api.Line
	for n > 80 {
		l.Tokens = append(l.Tokens, word(strings.Repeat("w", 39)))
		n -= 40
	}
	l.Tokens = append(l.Tokens, word(strings.Repeat("w", 39)), word(strings.Repeat("w", n-40)))
	return l
}

// P11.1
func TestToken(t *testing.T) {
	for _, c := range []struct {
		t    api.Token
		want string
	}{
		{word("aB_9"), "aB_9"}, {num(-120), "-120"}, {num(0), "0"}, {text("a # b"), `"a # b"`}, {sign(":"), ":"}, {api.Token{Kind: api.TokWord, Text: "a", At: -8}, "a"},
	} {
		if s, e := printer.Token(c.t); s != c.want || e != api.OK {
			t.Errorf("Token(%v) = %q, %d", c.t, s, e)
		}
	}
	for _, x := range []api.Token{{}, word(""), word("a b"), num(lexer.MaxNumber + 1), text(""), sign("-"), {Kind: api.TokWord, Text: "a", N: 1}} {
		if s, e := printer.Token(x); s != "" || e != api.ErrSyntax {
			t.Errorf("Token(%v) = %q, %d", x, s, e)
		}
	}
}

// P11.1, P11.3
func TestPrint(t *testing.T) {
	for _, c := range []struct {
		rows, want []string
	}{
		{[]string{""}, nil},
		{[]string{"", "   # x"}, nil},
		{[]string{"wall  south :", "  joint ( 5 , 10 )  # mm"}, []string{"wall south:", "  joint (5, 10)"}},
		{[]string{"a=b<c>d+e/f:g"}, []string{"a = b < c > d + e / f : g"}},
		{[]string{"((a)(b),(c))"}, []string{"((a) (b), (c))"}},
		{[]string{"a ( ) , , ( ( ) )"}, []string{"a (),, (())"}},
		{[]string{"( -5 , -6 ) )", ") (", "( :", ") :", ", :", "=:"}, []string{"(-5, -6))", ") (", "(:", "):", ",:", "=:"}},
		{[]string{`"("a")"b","c`}, []string{`"(" a ")" b "," c`}},
		{[]string{"a : :", "  : : b", "  ::"}, []string{"a ::", "  : : b", "  ::"}},
		{[]string{"a:", "  b:", "", "    c  # x", "  d :", "e 1 -2 0:"}, []string{"a:", "  b:", "    c", "  d:", "e 1 -2 0:"}},
	} {
		lines := tree(t, c.rows...)
		want := ""
		if len(c.want) > 0 {
			want = source(c.want...)
		}
		if s, e := printer.Print(lines); s != want || e != api.OK {
			t.Errorf("Print(%q) = %q, %d, want %q", c.rows, s, e, want)
		}
		if e := printer.Check(lines); e != api.OK {
			t.Errorf("Check(%q) = %d", c.rows, e)
		}
		if rows, e := printer.Rows(source(c.rows...)); !slices.Equal(rows, c.want) || e != api.OK {
			t.Errorf("Rows(%q) = %q, %d", c.rows, rows, e)
		}
	}
}

// P11.1, P11.2: numbers and columns that a tree has are no matter.
func TestPrintForgetsColumns(t *testing.T) {
	odd := []api.Line{{Tokens: []api.Token{{Kind: api.TokWord, Text: "a", At: -5}, {Kind: api.TokNumber, N: 7, At: 1}}, Heading: true, At: -9, Kids: []api.Line{{Tokens: []api.Token{{Kind: api.TokText, Text: "b", At: 1 << 40}}, At: 1}}}}
	if s, e := printer.Print(odd); s != "a 7:\n  \"b\"\n" || e != api.OK {
		t.Errorf("Print: %q, %d", s, e)
	}
	want := []api.Line{{Tokens: []api.Token{{Kind: api.TokWord, Text: "a", At: 1}, {Kind: api.TokNumber, N: 7, At: 3}}, Heading: true, At: 1, Kids: []api.Line{{Tokens: []api.Token{{Kind: api.TokText, Text: "b", At: 3}}, At: 2}}}}
	got, e := printer.Number(odd)
	if !reflect.DeepEqual(got, want) || e != api.OK {
		t.Errorf("Number: %v, %d", got, e)
	}
	got[0].Tokens[0].Text = "x"
	got[0].Kids[0].Tokens[0].Text = "x"
	if odd[0].Tokens[0].Text != "a" || odd[0].At != -9 || odd[0].Kids[0].Tokens[0].Text != "b" || odd[0].Kids[0].At != 1 {
		t.Errorf("Number shares memory: %v", odd)
	}
}

// P11.2
func TestNumber(t *testing.T) {
	lines := tree(t, "", "# x", "a:", "", "  joint ( 5 , 10 )  # mm", `    `, "  b :", `    c="d"`, "e")
	want := []api.Line{
		{Tokens: []api.Token{{Kind: api.TokWord, Text: "a", At: 1}}, Heading: true, At: 1, Kids: []api.Line{
			{Tokens: []api.Token{{Kind: api.TokWord, Text: "joint", At: 3}, {Kind: api.TokSign, Text: "(", At: 9}, {Kind: api.TokNumber, N: 5, At: 10}, {Kind: api.TokSign, Text: ",", At: 11}, {Kind: api.TokNumber, N: 10, At: 13}, {Kind: api.TokSign, Text: ")", At: 15}}, At: 2},
			{Tokens: []api.Token{{Kind: api.TokWord, Text: "b", At: 3}}, Heading: true, At: 3, Kids: []api.Line{
				{Tokens: []api.Token{{Kind: api.TokWord, Text: "c", At: 5}, {Kind: api.TokSign, Text: "=", At: 7}, {Kind: api.TokText, Text: "d", At: 9}}, At: 4},
			}},
		}},
		{Tokens: []api.Token{{Kind: api.TokWord, Text: "e", At: 1}}, At: 5},
	}
	if got, e := printer.Number(lines); !reflect.DeepEqual(got, want) || e != api.OK {
		t.Errorf("Number: %v, %d", got, e)
	}
	if got, e := printer.Number(nil); len(got) != 0 || e != api.OK {
		t.Errorf("Number: %v, %d", got, e)
	}
	if !printer.Same(lines, want) || printer.Same(lines, want[:1]) || printer.Same(want[1:], lines) || !printer.Same(nil, []api.Line{}) {
		t.Error("Same")
	}
	want[0].Kids[1].Heading = false
	if printer.Same(lines, want) {
		t.Error("Same")
	}
}

// P11.1, P11.2, P1
func TestTreesThatCannotBePrinted(t *testing.T) {
	deep := line(word("a"))
	for range 6 {
		deep = heading(line(word("h")), deep)
	}
	longest := slices.Repeat([]api.Line{wide(1000)}, 65)
	full := append(slices.Clone(longest), wide(470)) // 65 * 1001 + 471 = 65536
	for i, c := range []struct {
		lines []api.Line
		want  api.Errno
	}{
		{nil, api.OK},
		{[]api.Line{deep}, api.OK},
		{[]api.Line{wide(1000)}, api.OK},
		{[]api.Line{heading(wide(999))}, api.OK},
		{[]api.Line{heading(line(word("a")), wide(998))}, api.OK},
		{[]api.Line{heading(line(word("a")), heading(wide(997)))}, api.OK},
		{full, api.OK},
		{[]api.Line{{}}, api.ErrInvalid},
		{[]api.Line{line(word("a b"))}, api.ErrInvalid},
		{[]api.Line{line(word("a"), sign(":"))}, api.ErrInvalid},
		{[]api.Line{{Tokens: []api.Token{word("a")}, Kids: []api.Line{line(word("b"))}}}, api.ErrInvalid},
		{[]api.Line{wide(1001), {}}, api.ErrInvalid},
		{[]api.Line{line(slices.Repeat([]api.Token{word("a")}, 65)...)}, api.ErrTooMany},
		{[]api.Line{heading(line(word("h")), deep)}, api.ErrTooMany},
		{[]api.Line{wide(1001)}, api.ErrTooMany},
		{[]api.Line{heading(wide(1000))}, api.ErrTooMany},
		{[]api.Line{heading(line(word("a")), wide(999))}, api.ErrTooMany},
		{[]api.Line{heading(line(word("a")), heading(wide(998)))}, api.ErrTooMany},
		{append(slices.Clone(longest), wide(471)), api.ErrTooMany},
		{append(slices.Clone(full), line(word("a"))), api.ErrTooMany},
	} {
		if e := printer.Check(c.lines); e != c.want {
			t.Errorf("%d: Check = %d, want %d", i, e, c.want)
		}
		s, e := printer.Print(c.lines)
		if e != c.want || e != api.OK && s != "" {
			t.Errorf("%d: Print = %.40q, %d", i, s, e)
		}
		n, e := printer.Number(c.lines)
		if e != c.want || e != api.OK && n != nil {
			t.Errorf("%d: Number = %v, %d", i, n, e)
		}
		if c.want == api.OK {
			if back, f := parser.Parse(s); f.Code != api.OK || !parser.Same(back, c.lines) {
				t.Errorf("%d: Parse(Print) = %v", i, f)
			}
		}
	}
	if s, _ := printer.Print(full); len(s) != api.MaxSource {
		t.Errorf("%d bytes", len(s))
	}
}

// P11.3: canonical lines may be longer than those of the source.
func TestRows(t *testing.T) {
	for _, c := range []struct {
		source string
		want   []string
		e      api.Errno
	}{
		{"", nil, api.OK},
		{"\n  \n# a", nil, api.OK},
		{"a:\n  b=5\n\nc", []string{"a:", "  b = 5", "c"}, api.OK},
		{"a\n  b", nil, api.ErrSyntax},
		{"1000000000000001", nil, api.ErrRange},
		{`""`, nil, api.ErrName},
		{"a" + strings.Repeat("\n", api.MaxSource), nil, api.ErrTooMany},
		{strings.Repeat(strings.Repeat("w", 40)+"=", 24) + strings.Repeat("w", 16), nil, api.ErrTooMany},
		{strings.Repeat("====\n", 8192), slices.Repeat([]string{"= = = ="}, 8192), api.OK},
		{strings.Repeat("====\n", 8192) + "=\n", nil, api.ErrTooMany},
	} {
		if rows, e := printer.Rows(c.source); !slices.Equal(rows, c.want) || e != c.e {
			t.Errorf("Rows(%.40q) = %d rows, %d", c.source, len(rows), e)
		}
	}
}

// randomTree makes a well-formed tree.
func randomTree(r *rand.Rand, depth int) []api.Line {
	known := []api.Token{word("a"), word("Zz_9"), num(0), num(-7), num(lexer.MaxNumber), text("x # y"), text("("), sign("("), sign(")"), sign(","), sign("="), sign(":"), sign("+")}
	var lines []api.Line
	for range r.Intn(4) {
		var l api.Line
		for range 1 + r.Intn(6) {
			l.Tokens = append(l.Tokens, known[r.Intn(len(known))])
		}
		l.Heading = r.Intn(2) == 0 || l.Tokens[len(l.Tokens)-1] == sign(":")
		if l.Heading && depth < 7 {
			l.Kids = randomTree(r, depth+1)
		}
		lines = append(lines, l)
	}
	return lines
}

// P11.5: the canonical source is parsed as the numbered tree, and is its own canonical source.
func TestCanonicalSource(t *testing.T) {
	r := rand.New(rand.NewSource(11))
	for range 3000 {
		lines := randomTree(r, 1)
		s, e := printer.Print(lines)
		numbered, f := printer.Number(lines)
		if e != api.OK || f != api.OK || !printer.Same(numbered, lines) {
			t.Fatalf("%v: %d, %d", lines, e, f)
		}
		back, fault := parser.Parse(s)
		if fault.Code != api.OK || !reflect.DeepEqual(back, numbered) {
			t.Fatalf("Parse(%q) = %v, %v, want %v", s, back, fault, numbered)
		}
		if again, e := printer.Print(back); again != s || e != api.OK {
			t.Fatalf("Print: %q, then %q", s, again)
		}
		rows, e := printer.Rows(s)
		if e != api.OK || strings.Join(append(rows, ""), "\n") != s {
			t.Fatalf("Rows(%q) = %q, %d", s, rows, e)
		}
	}
}
