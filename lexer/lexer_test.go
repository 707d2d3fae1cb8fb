package lexer_test

import (
	"math/rand"
	"regexp"
	"slices"
	"strconv"
	"strings"
	"testing"

	"gangsaw/api"
	"gangsaw/lexer"
)

func word(s string, at int) api.Token { return api.Token{Kind: api.TokWord, Text: s, At: at} }
func text(s string, at int) api.Token { return api.Token{Kind: api.TokText, Text: s, At: at} }
func sign(s string, at int) api.Token { return api.Token{Kind: api.TokSign, Text: s, At: at} }
func num(n int64, at int) api.Token   { return api.Token{Kind: api.TokNumber, N: n, At: at} }

func isZero(s lexer.Scanned) bool { return same(s, lexer.Scanned{}) }

func same(a, b lexer.Scanned) bool {
	return a.Indent == b.Indent && slices.Equal(a.Tokens, b.Tokens) && a.Heading == b.Heading && a.Comment == b.Comment
}

func scanned(indent int, heading bool, comment string, tokens ...api.Token) lexer.Scanned {
	return lexer.Scanned{Indent: indent, Tokens: tokens, Heading: heading, Comment: comment}
}

// P9.1
func TestScan(t *testing.T) {
	w40 := "A" + strings.Repeat("z_9", 13)
	label := strings.Repeat("~!", 20)
	for _, c := range []struct {
		line string
		want lexer.Scanned
	}{
		{"  bed = upper, -120  # seen", scanned(1, false, " seen", word("bed", 3), sign("=", 7), word("upper", 9), sign(",", 14), num(-120, 16))},
		{"wall south:", scanned(0, true, "", word("wall", 1), word("south", 6))},
		{"", scanned(0, false, "")},
		{"   ", scanned(0, false, "")},
		{strings.Repeat(" ", 1000), scanned(0, false, "")},
		{"#", scanned(0, false, "")},
		{"   # a # b\t\x00\xff", scanned(0, false, " a # b\t\x00\xff")},
		{strings.Repeat(" ", 15) + "#x", scanned(0, false, "x")},
		{"#" + strings.Repeat("x", 999), scanned(0, false, strings.Repeat("x", 999))},
		{"a", scanned(0, false, "", word("a", 1))},
		{"a  ", scanned(0, false, "", word("a", 1))},
		{"            a", scanned(6, false, "", word("a", 13))},
		{"a#b", scanned(0, false, "b", word("a", 1))},
		{"a:#b", scanned(0, true, "b", word("a", 1))},
		{"a : # b", scanned(0, true, " b", word("a", 1))},
		{"a :b", scanned(0, false, "", word("a", 1), sign(":", 3), word("b", 4))},
		{"a::", scanned(0, true, "", word("a", 1), sign(":", 2))},
		{"::", scanned(0, true, "", sign(":", 1))},
		{": a", scanned(0, false, "", sign(":", 1), word("a", 3))},
		{`a ":"`, scanned(0, false, "", word("a", 1), text(":", 3))},
		{"(),=:<>+/", scanned(0, false, "", sign("(", 1), sign(")", 2), sign(",", 3), sign("=", 4), sign(":", 5), sign("<", 6), sign(">", 7), sign("+", 8), sign("/", 9))},
		{"a-5-10", scanned(0, false, "", word("a", 1), num(-5, 2), num(-10, 4))},
		{"a_B9(7)0", scanned(0, false, "", word("a_B9", 1), sign("(", 5), num(7, 6), sign(")", 7), num(0, 8))},
		{`5"x"y"z"`, scanned(0, false, "", num(5, 1), text("x", 2), word("y", 5), text("z", 6))},
		{`"a # b" # c`, scanned(0, false, " c", text("a # b", 1))},
		{`"a:b (c)"`, scanned(0, false, "", text("a:b (c)", 1))},
		{`"` + label + `"`, scanned(0, false, "", text(label, 1))},
		{w40 + "+Zz", scanned(0, false, "", word(w40, 1), sign("+", 41), word("Zz", 42))},
		{"1000000000000000 -1000000000000000", scanned(0, false, "", num(1e15, 1), num(-1e15, 18))},
	} {
		got, f := lexer.Scan(c.line)
		if !same(got, c.want) || f != (api.Fault{}) {
			t.Errorf("Scan(%q) = %v, %v, want %v", c.line, got, f, c.want)
		}
	}
}

func many(n int, rest string) string { return strings.Repeat("a ", n) + rest }

// P9.1, P1: each fault, and which one comes first.
func TestFaults(t *testing.T) {
	for _, c := range []struct {
		line string
		code api.Errno
		col  int
	}{
		{strings.Repeat(" ", 1001), api.ErrTooMany, 1001},
		{"#" + strings.Repeat("x", 1000), api.ErrTooMany, 1001},
		{" ?" + strings.Repeat("x", 2000), api.ErrTooMany, 1001},
		{" a", api.ErrSyntax, 2},
		{"   ?", api.ErrSyntax, 4},
		{" :", api.ErrSyntax, 2},
		{strings.Repeat(" ", 13) + "a", api.ErrSyntax, 14},
		{strings.Repeat(" ", 14) + "a", api.ErrTooMany, 15},
		{strings.Repeat(" ", 14) + "?", api.ErrTooMany, 15},
		{strings.Repeat(" ", 998) + "a", api.ErrTooMany, 999},
		{":", api.ErrSyntax, 1},
		{"  :  # x", api.ErrSyntax, 3},
		{many(64, "a"), api.ErrTooMany, 129},
		{many(64, "?"), api.ErrTooMany, 129},
		{many(64, ":"), api.ErrTooMany, 129},
		{many(64, "  007"), api.ErrTooMany, 131},
		{many(64, `"`), api.ErrTooMany, 129},
		{many(63, "?"), api.ErrSyntax, 127},
		{strings.Repeat(":", 65), api.ErrTooMany, 65},
		{"?", api.ErrSyntax, 1},
		{"\ta", api.ErrSyntax, 1},
		{"a\tb", api.ErrSyntax, 2},
		{"a\n", api.ErrSyntax, 2},
		{"a\x00", api.ErrSyntax, 2},
		{"a \u00e9", api.ErrSyntax, 3},
		{"_a", api.ErrSyntax, 1},
		{"a _", api.ErrSyntax, 3},
		{"a.b", api.ErrSyntax, 2},
		{"a*", api.ErrSyntax, 2},
		{"a;", api.ErrSyntax, 2},
		{"-", api.ErrSyntax, 1},
		{"a - 5", api.ErrSyntax, 3},
		{"a-b", api.ErrSyntax, 2},
		{"--5", api.ErrSyntax, 1},
		{"5-", api.ErrSyntax, 2},
		{"007", api.ErrSyntax, 1},
		{"00", api.ErrSyntax, 1},
		{"-0", api.ErrSyntax, 1},
		{"-01", api.ErrSyntax, 1},
		{"0-0", api.ErrSyntax, 2},
		{"12a", api.ErrSyntax, 1},
		{"12_", api.ErrSyntax, 1},
		{"a 12Z ?", api.ErrSyntax, 3},
		{"a-5-0x", api.ErrSyntax, 4},
		{"0a", api.ErrSyntax, 1},
		{"9999999999999999a", api.ErrSyntax, 1},
		{"09999999999999999", api.ErrSyntax, 1},
		{"1000000000000001", api.ErrRange, 1},
		{"a -1000000000000001", api.ErrRange, 3},
		{"a 9223372036854775808", api.ErrRange, 3},
		{"-18446744073709551615", api.ErrRange, 1},
		{strings.Repeat("9", 1000), api.ErrRange, 1},
		{"1000000000000001 ?", api.ErrRange, 1},
		{"? 1000000000000001", api.ErrSyntax, 1},
		{`"a`, api.ErrSyntax, 1},
		{`"`, api.ErrSyntax, 1},
		{`a "b" "`, api.ErrSyntax, 7},
		{`a " b`, api.ErrSyntax, 3},
		{`"a # b`, api.ErrSyntax, 1},
		{`""`, api.ErrName, 1},
		{`a "" ?`, api.ErrName, 3},
		{`" a"`, api.ErrName, 1},
		{`"a "`, api.ErrName, 1},
		{`" "`, api.ErrName, 1},
		{"\"a\tb\"", api.ErrName, 1},
		{"\"\x7f\"", api.ErrName, 1},
		{"\"\u00e9\"", api.ErrName, 1},
		{`"` + strings.Repeat("x", 41) + `"`, api.ErrName, 1},
		{"a " + strings.Repeat("x", 41), api.ErrName, 3},
		{strings.Repeat("x", 900) + " ?", api.ErrName, 1},
		{"? " + strings.Repeat("x", 41), api.ErrSyntax, 1},
	} {
		got, f := lexer.Scan(c.line)
		if !isZero(got) || f != (api.Fault{Code: c.code, Col: c.col}) {
			t.Errorf("Scan(%q) = %v, %v, want %d at %d", c.line, got, f, c.code, c.col)
		}
	}
}

// P9.1: 64 tokens are allowed, the colon of a heading among them.
func TestMostTokens(t *testing.T) {
	for _, c := range []struct {
		line    string
		tokens  int
		heading bool
		comment string
	}{
		{many(64, ""), 64, false, ""},
		{many(64, "   #x"), 64, false, "x"},
		{many(63, ":"), 63, true, ""},
		{many(63, ": #x"), 63, true, "x"},
		{strings.Repeat(":", 64), 63, true, ""},
	} {
		s, f := lexer.Scan(c.line)
		if len(s.Tokens) != c.tokens || s.Heading != c.heading || s.Comment != c.comment || f != (api.Fault{}) {
			t.Errorf("Scan(%q) = %v, %v", c.line, s, f)
		}
	}
}

// P9.2
func TestLines(t *testing.T) {
	for _, c := range []struct {
		source string
		want   []string
	}{
		{"", nil},
		{"\n", []string{""}},
		{"a", []string{"a"}},
		{"a\n", []string{"a"}},
		{"a\n\n", []string{"a", ""}},
		{"\n\na", []string{"", "", "a"}},
		{"a\nb\r\n c ", []string{"a", "b\r", " c "}},
		{"\r\n\x00\n\xff", []string{"\r", "\x00", "\xff"}},
		{strings.Repeat("x", api.MaxSource), []string{strings.Repeat("x", api.MaxSource)}},
		{strings.Repeat("\n", api.MaxSource), make([]string, api.MaxSource)},
	} {
		if got, e := lexer.Lines(c.source); !slices.Equal(got, c.want) || e != api.OK {
			t.Errorf("Lines(%.40q) = %.40q, %d", c.source, got, e)
		}
	}
	for _, source := range []string{strings.Repeat("x", api.MaxSource+1), strings.Repeat("\n", api.MaxSource+1)} {
		if got, e := lexer.Lines(source); len(got) != 0 || e != api.ErrTooMany {
			t.Errorf("Lines of %d bytes: %d lines, %d", len(source), len(got), e)
		}
	}
}

// P9.2
func TestNames(t *testing.T) {
	for s, want := range map[string]bool{
		"a": true, "z": true, "a0": true, "a_": true, "abc_09z": true,
		"a" + strings.Repeat("9", 23): true, "a" + strings.Repeat("9", 24): false,
		"": false, "A": false, "aB": false, "0": false, "_": false, "0a": false, "_a": false,
		"a b": false, " a": false, "a ": false, "a-b": false, "a.b": false, "\u00e9": false, "a\u00e9": false, "a\x00": false, "a\n": false, "`": false, "{": false, "a`": false, "a{": false, "a/": false, "a:": false, "a@": false, "a[": false,
	} {
		if got := lexer.Name(s); got != want {
			t.Errorf("Name(%q) = %v", s, got)
		}
	}
}

// P9.2
func TestLabels(t *testing.T) {
	for s, want := range map[string]bool{
		"a": true, "A": true, "!": true, "~": true, "7": true, "a b": true, "a  b": true, "#": true, "x # y": true, "'": true,
		strings.Repeat("x", 40): true, strings.Repeat("x", 41): false, "x" + strings.Repeat(" ", 38) + "x": true,
		"": false, " ": false, " a": false, "a ": false, `"`: false, `a"b`: false, "a\tb": false, "a\nb": false, "\x1f": false, "\x7f": false, "\u00e9": false, "a\x80b": false, "\x00": false,
	} {
		if got := lexer.Label(s); got != want {
			t.Errorf("Label(%q) = %v", s, got)
		}
	}
}

type spelling struct {
	t    api.Token
	want string
}

func spellings() []spelling {
	list := []spelling{
		{word("a", 0), "a"}, {word("Z", 5), "Z"}, {word("aB_9", -7), "aB_9"}, {word(strings.Repeat("Q", 40), 0), strings.Repeat("Q", 40)},
		{num(0, 0), "0"}, {num(-1, 0), "-1"}, {num(120, 1<<62), "120"}, {num(lexer.MaxNumber, 0), "1000000000000000"}, {num(-lexer.MaxNumber, 0), "-1000000000000000"},
		{text("a", 0), `"a"`}, {text("a # (b)", -1), `"a # (b)"`}, {text(strings.Repeat("x", 40), 0), `"` + strings.Repeat("x", 40) + `"`}, {text("5", 0), `"5"`},
	}
	for _, s := range []string{"(", ")", ",", "=", ":", "<", ">", "+", "/"} {
		list = append(list, spelling{sign(s, 0), s})
	}
	return list
}

// impossible are tokens that no line has.
func impossible() []api.Token {
	kind := func(k int, s string, n int64) api.Token { return api.Token{Kind: k, Text: s, N: n, At: 1} }
	return []api.Token{
		{}, {Text: "a"}, kind(-1, "a", 0), kind(5, "a", 0), kind(1<<40, "", 1),
		kind(api.TokWord, "", 0), kind(api.TokWord, "a", 1), kind(api.TokWord, "9", 0), kind(api.TokWord, "_a", 0), kind(api.TokWord, "a b", 0), kind(api.TokWord, "a-", 0), kind(api.TokWord, "\u00e9", 0), kind(api.TokWord, "(", 0), kind(api.TokWord, strings.Repeat("x", 41), 0),
		kind(api.TokNumber, "5", 5), kind(api.TokNumber, "", lexer.MaxNumber+1), kind(api.TokNumber, "", -lexer.MaxNumber-1), kind(api.TokNumber, "", 1<<63-1), kind(api.TokNumber, "", -1<<63),
		kind(api.TokText, "", 0), kind(api.TokText, "a", -1), kind(api.TokText, " a", 0), kind(api.TokText, "a ", 0), kind(api.TokText, `"`, 0), kind(api.TokText, "a\n", 0), kind(api.TokText, strings.Repeat("x", 41), 0),
		kind(api.TokSign, "", 0), kind(api.TokSign, "a", 0), kind(api.TokSign, "-", 0), kind(api.TokSign, "#", 0), kind(api.TokSign, `"`, 0), kind(api.TokSign, " ", 0), kind(api.TokSign, "((", 0), kind(api.TokSign, "(,", 0), kind(api.TokSign, "(", 1), kind(api.TokSign, "*", 0), kind(api.TokSign, ";", 0), kind(api.TokSign, "\x00", 0),
	}
}

// P9.3
func TestSpell(t *testing.T) {
	for _, c := range spellings() {
		if s, e := lexer.Spell(c.t); s != c.want || e != api.OK || !lexer.Valid(c.t) {
			t.Errorf("%v: Spell %q, %d, Valid %v", c.t, s, e, lexer.Valid(c.t))
		}
	}
	for _, x := range impossible() {
		if s, e := lexer.Spell(x); s != "" || e != api.ErrSyntax || lexer.Valid(x) {
			t.Errorf("%v: Spell %q, %d, Valid %v", x, s, e, lexer.Valid(x))
		}
	}
}

// bare returns tokens without their columns.
func bare(list []api.Token) []api.Token {
	list = slices.Clone(list)
	for i := range list {
		list[i].At = 0
	}
	return list
}

// P9.4: spellings are scanned as the tokens; more blanks and a comment change only columns and the comment.
func TestSpellingsAreScanned(t *testing.T) {
	r := rand.New(rand.NewSource(9))
	known := spellings()
	for range 3000 {
		var tokens []api.Token
		var parts []string
		for range 1 + r.Intn(12) {
			c := known[r.Intn(len(known))]
			tokens, parts = append(tokens, c.t), append(parts, c.want)
		}
		tight := strings.Join(parts, " ")
		s, f := lexer.Scan(tight)
		want := bare(tokens)
		if want[len(want)-1] == sign(":", 0) {
			want = want[:len(want)-1]
			if len(want) == 0 {
				if f != (api.Fault{Code: api.ErrSyntax, Col: 1}) {
					t.Fatalf("%q: %v", tight, f)
				}
				continue
			}
		}
		if f.Code != api.OK || !slices.Equal(bare(s.Tokens), want) || s.Heading != (len(want) < len(tokens)) || s.Comment != "" {
			t.Fatalf("Scan(%q) = %v, %v", tight, s, f)
		}
		for i := 1; i < len(s.Tokens); i++ {
			if s.Tokens[i].At <= s.Tokens[i-1].At {
				t.Fatalf("Scan(%q): columns %v", tight, s.Tokens)
			}
		}
		wide := strings.Join(parts, strings.Repeat(" ", 1+r.Intn(4))) + "  # a: b"
		w, f := lexer.Scan(wide)
		if f.Code != api.OK || !slices.Equal(bare(w.Tokens), want) || w.Heading != s.Heading || w.Indent != s.Indent || w.Comment != " a: b" {
			t.Fatalf("Scan(%q) = %v, %v", wide, w, f)
		}
	}
}

var (
	wholeToken = regexp.MustCompile(`^(?:([A-Za-z][A-Za-z0-9_]*)|(-?[0-9]+)|"([^"]*)"|([(),=:<>+/]))`)
	goodNumber = regexp.MustCompile(`^(0|-?[1-9][0-9]*)$`)
	goodLabel  = regexp.MustCompile(`^[!#-~]([ !#-~]{0,38}[!#-~])?$`)
)

// oracle finds one token in another way than the program: by regular expressions.
func oracle(s string) (api.Token, int, api.Errno) {
	m := wholeToken.FindStringSubmatch(s)
	if m == nil {
		return api.Token{}, 0, api.ErrSyntax
	}
	size := len(m[0])
	switch {
	case m[1] != "" && size > 40:
		return api.Token{}, 0, api.ErrName
	case m[1] != "":
		return word(m[1], 0), size, api.OK
	case m[2] != "" && (!goodNumber.MatchString(m[2]) || regexp.MustCompile(`^[A-Za-z_]`).MatchString(s[size:])):
		return api.Token{}, 0, api.ErrSyntax
	case m[2] != "":
		n, err := strconv.ParseInt(m[2], 10, 64)
		if err != nil || n > 1e15 || n < -1e15 {
			return api.Token{}, 0, api.ErrRange
		}
		return num(n, 0), size, api.OK
	case m[4] != "":
		return sign(m[4], 0), size, api.OK
	case !goodLabel.MatchString(m[3]):
		return api.Token{}, 0, api.ErrName
	}
	return text(m[3], 0), size, api.OK
}

func scanByOracle(line string) (lexer.Scanned, api.Fault) {
	fault := func(code api.Errno, at int) (lexer.Scanned, api.Fault) {
		return lexer.Scanned{}, api.Fault{Code: code, Col: at + 1}
	}
	if len(line) > 1000 {
		return fault(api.ErrTooMany, 1000)
	}
	var s lexer.Scanned
	indent := len(line) - len(strings.TrimLeft(line, " "))
	at := indent
	if at < len(line) && line[at] != '#' {
		if at%2 == 1 {
			return fault(api.ErrSyntax, at)
		}
		if at > 12 {
			return fault(api.ErrTooMany, at)
		}
		s.Indent = at / 2
	}
	for at < len(line) && line[at] != '#' {
		if line[at] == ' ' {
			at++
			continue
		}
		if len(s.Tokens) == 64 {
			return fault(api.ErrTooMany, at)
		}
		x, size, e := oracle(line[at:])
		if e != api.OK {
			return fault(e, at)
		}
		x.At = at + 1
		s.Tokens = append(s.Tokens, x)
		at += size
	}
	if at < len(line) {
		s.Comment = line[at+1:]
	}
	if n := len(s.Tokens); n > 0 && s.Tokens[n-1].Kind == api.TokSign && s.Tokens[n-1].Text == ":" {
		if n == 1 {
			return fault(api.ErrSyntax, s.Tokens[0].At-1)
		}
		s.Tokens, s.Heading = s.Tokens[:n-1], true
	}
	return s, api.Fault{}
}

// P9.1: lines of random parts.
func TestScanAgainstOracle(t *testing.T) {
	r := rand.New(rand.NewSource(1))
	parts := []string{" ", "  ", " ", "a", "Zz", "0", "7", "12", "-", "-5", "_", `"`, `"x y"`, `""`, "#", ":", "(", ")", "=", "+", "/", "\t", "\xc3\xa9", "1000000000000000", "xxxxxxxxxxxxxxxxxxxxx", "%"}
	clean := parts[:6]
	for i := range 60000 {
		from := parts
		if i%3 == 0 {
			from = clean
		}
		var b strings.Builder
		b.WriteString(strings.Repeat(" ", 2*r.Intn(4)))
		for range r.Intn(12) {
			b.WriteString(from[r.Intn(len(from))])
		}
		line := b.String()
		got, f := lexer.Scan(line)
		want, g := scanByOracle(line)
		if !same(got, want) || f != g {
			t.Fatalf("Scan(%q) = %v, %v, want %v, %v", line, got, f, want, g)
		}
	}
}

// P1, P9.3: whatever is scanned is valid; nothing panics for any bytes.
func FuzzScan(f *testing.F) {
	f.Add("  bed = upper, -120  # seen")
	f.Add(`a "b`)
	f.Add("\x00\xff:-")
	f.Fuzz(func(t *testing.T, line string) {
		got, fault := lexer.Scan(line)
		want, g := scanByOracle(line)
		if !same(got, want) || fault != g {
			t.Fatalf("Scan(%q) = %v, %v, want %v, %v", line, got, fault, want, g)
		}
		for _, x := range got.Tokens {
			if !lexer.Valid(x) {
				t.Fatalf("Scan(%q) has %v", line, x)
			}
		}
	})
}
