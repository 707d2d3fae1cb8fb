package query_test

import (
	"math"
	"reflect"
	"slices"
	"strconv"
	"strings"
	"testing"

	"gangsaw/api"
	"gangsaw/query"
)

type (
	node = query.Node
	cell = query.Cell
)

func num(n int64) cell { return cell{N: n} }

func text(s string) cell { return cell{Text: true, S: s} }

// tables are those of the chapter's examples.
func tables() []query.Table {
	return []query.Table{
		{Name: "blocks", Columns: []string{"name", "mass"}, Rows: [][]cell{{text("b"), num(7)}, {text("a"), num(5)}, {text("c"), num(5)}, {text("a"), num(5)}}},
		{Name: "cuts", Columns: []string{"name", "saw"}, Rows: [][]cell{{text("a"), text("frame")}, {text("a"), text("wire")}, {text("b"), text("wire")}}},
	}
}

// parse returns the query of a text that is right.
func parse(t *testing.T, s string) []node {
	t.Helper()
	q, f := query.Parse(s)
	if f != (api.Fault{}) {
		t.Fatalf("Parse(%q) = %v", s, f)
	}
	return q
}

// P57.2, P57.3, P57.4: the examples.
func TestExamples(t *testing.T) {
	for s, want := range map[string]query.Table{
		"blocks":                         {Columns: []string{"name", "mass"}, Rows: [][]cell{{text("a"), num(5)}, {text("b"), num(7)}, {text("c"), num(5)}}},
		"where(blocks, mass > 5)":        {Columns: []string{"name", "mass"}, Rows: [][]cell{{text("b"), num(7)}}},
		"count(blocks, mass)":            {Columns: []string{"mass", "count"}, Rows: [][]cell{{num(5), num(2)}, {num(7), num(1)}}},
		"sum(blocks, mass)":              {Columns: []string{"sum"}, Rows: [][]cell{{num(17)}}},
		"count(blocks)":                  {Columns: []string{"count"}, Rows: [][]cell{{num(3)}}},
		"sum(blocks, name, mass)":        {Columns: []string{"mass", "sum"}, Rows: [][]cell{{num(5), num(0)}, {num(7), num(0)}}},
		"sum(cuts, saw, name)":           {Columns: []string{"name", "sum"}, Rows: [][]cell{{text("a"), num(0)}, {text("b"), num(0)}}},
		"join(blocks, cuts)":             {Columns: []string{"name", "mass", "saw"}, Rows: [][]cell{{text("a"), num(5), text("frame")}, {text("a"), num(5), text("wire")}, {text("b"), num(7), text("wire")}}},
		"select(blocks, mass)":           {Columns: []string{"mass"}, Rows: [][]cell{{num(5)}, {num(7)}}},
		"select(cuts, saw, name)":        {Columns: []string{"saw", "name"}, Rows: [][]cell{{text("frame"), text("a")}, {text("wire"), text("a")}, {text("wire"), text("b")}}},
		"where(blocks, mass < name)":     {Columns: []string{"name", "mass"}, Rows: [][]cell{{text("a"), num(5)}, {text("b"), num(7)}, {text("c"), num(5)}}},
		"where(blocks, name = name)":     {Columns: []string{"name", "mass"}, Rows: [][]cell{{text("a"), num(5)}, {text("b"), num(7)}, {text("c"), num(5)}}},
		"where(blocks, not(mass = 5))":   {Columns: []string{"name", "mass"}, Rows: [][]cell{{text("b"), num(7)}}},
		`where(blocks, name < "b")`:      {Columns: []string{"name", "mass"}, Rows: [][]cell{{text("a"), num(5)}}},
		"where(blocks, name > 99)":       {Columns: []string{"name", "mass"}, Rows: [][]cell{{text("a"), num(5)}, {text("b"), num(7)}, {text("c"), num(5)}}},
		"where(blocks, mass = -5)":       {Columns: []string{"name", "mass"}},
		"count(where(blocks, mass < 0))": {Columns: []string{"count"}},
		`where(blocks, or(name = "c", and(mass > 4, name = "b")))`:       {Columns: []string{"name", "mass"}, Rows: [][]cell{{text("b"), num(7)}, {text("c"), num(5)}}},
		`minus(blocks, where(blocks, name = "a"))`:                       {Columns: []string{"name", "mass"}, Rows: [][]cell{{text("b"), num(7)}, {text("c"), num(5)}}},
		`union(where(blocks, name = "c"), where(blocks, not(mass > 5)))`: {Columns: []string{"name", "mass"}, Rows: [][]cell{{text("a"), num(5)}, {text("c"), num(5)}}},
		"join(select(blocks, mass), select(cuts, saw))":                  {Columns: []string{"mass", "saw"}, Rows: [][]cell{{num(5), text("frame")}, {num(5), text("wire")}, {num(7), text("frame")}, {num(7), text("wire")}}},
	} {
		q := parse(t, s)
		got, e := query.Run(tables(), q)
		columns, f := query.Columns(tables(), q)
		if !reflect.DeepEqual(got, want) || !slices.Equal(columns, want.Columns) || e != api.OK || f != api.OK {
			t.Errorf("Run of %q = %v, %d; Columns = %v, %d", s, got, e, columns, f)
		}
		if again, e := query.Text(q); again != s || e != api.OK {
			t.Errorf("Text of %q = %q, %d", s, again, e)
		}
	}
	for s, want := range map[string]int{"blocks": 3, "where(blocks, mass > 5)": 4, "join(blocks, cuts)": 9, "sum(blocks, mass)": 4, "minus(blocks, blocks)": 6} {
		if n, e := query.Cost(tables(), parse(t, s)); n != want || e != api.OK {
			t.Errorf("Cost of %q = %d, %d", s, n, e)
		}
	}
}

// P57.4: the rule.
func TestRewrite(t *testing.T) {
	for s, want := range map[string]string{
		`where(join(blocks, cuts), and(mass = 5, saw = "wire"))`:                 `join(where(blocks, mass = 5), where(cuts, saw = "wire"))`,
		"where(blocks, and(mass = 5, name = 1))":                                 "where(where(blocks, name = 1), mass = 5)",
		"where(blocks, or(mass = 5, name = 1))":                                  "where(blocks, or(mass = 5, name = 1))",
		"where(blocks, and(and(mass = 1, mass = 2), mass = 3))":                  "where(where(where(blocks, mass = 3), mass = 2), mass = 1)",
		"where(where(blocks, mass = 5), name = 1)":                               "where(where(blocks, name = 1), mass = 5)",
		"where(union(blocks, blocks), mass = 5)":                                 "union(where(blocks, mass = 5), where(blocks, mass = 5))",
		"where(minus(blocks, blocks), mass = 5)":                                 "minus(where(blocks, mass = 5), blocks)",
		"where(select(blocks, mass), mass = 5)":                                  "select(where(blocks, mass = 5), mass)",
		"where(join(blocks, cuts), name = 5)":                                    "join(where(blocks, name = 5), cuts)",
		"where(join(blocks, cuts), name = saw)":                                  "join(blocks, where(cuts, name = saw))",
		"where(join(blocks, cuts), mass = saw)":                                  "where(join(blocks, cuts), mass = saw)",
		"where(join(blocks, cuts), not(or(mass = 1, saw = 2)))":                  "where(join(blocks, cuts), not(or(mass = 1, saw = 2)))",
		"where(count(blocks, mass), mass = 5)":                                   "count(where(blocks, mass = 5), mass)",
		"where(count(blocks, mass), count = 5)":                                  "where(count(blocks, mass), count = 5)",
		"where(count(blocks, mass), mass = count)":                               "where(count(blocks, mass), mass = count)",
		"where(sum(blocks, mass, name), and(name = 5, sum > 1))":                 "where(sum(where(blocks, name = 5), mass, name), sum > 1)",
		"where(sum(blocks, mass, name), and(sum > 1, name = 5))":                 "where(sum(where(blocks, name = 5), mass, name), sum > 1)",
		"select(where(select(blocks, mass), mass = 5), mass)":                    "select(select(where(blocks, mass = 5), mass), mass)",
		"minus(blocks, where(where(blocks, mass = 1), mass = 2))":                "minus(blocks, where(where(blocks, mass = 2), mass = 1))",
		"where(where(union(blocks, blocks), mass = 1), and(mass = 2, mass = 3))": "union(where(where(where(blocks, mass = 3), mass = 2), mass = 1), where(where(where(blocks, mass = 3), mass = 2), mass = 1))",
	} {
		got, e := query.Rewrite(tables(), parse(t, s))
		if again, f := query.Text(got); again != want || e != api.OK || f != api.OK || !reflect.DeepEqual(got, parse(t, want)) {
			t.Errorf("Rewrite of %q = %q, %d", s, again, e)
		}
	}
	// Too many nodes: the test goes to each of many tables.
	q := []node{{Kind: query.Where, Left: 1, Test: 199}}
	for range 65 {
		q = append(q, node{Kind: query.Union, Left: len(q) + 1, Right: len(q) + 2}, node{Kind: query.From, Name: "blocks"})
	}
	q = append(q, node{Kind: query.From, Name: "blocks"})
	q[0].Test = len(q)
	q = append(q, node{Kind: query.Compare, Name: "mass", Op: "="})
	if got, e := query.Rewrite(tables(), q); got != nil || e != api.ErrTooMany {
		t.Errorf("Rewrite: %d nodes, %d", len(got), e)
	}
	if n, e := query.Cost(tables(), q); n != 3*131 || e != api.OK {
		t.Errorf("Cost = %d, %d", n, e)
	}
}

// P57.2: faults, and which one comes first.
func TestFaults(t *testing.T) {
	for s, want := range map[string]api.Fault{
		"":                                 {Code: api.ErrSyntax, Line: 1, Col: 1},
		"# nothing":                        {Code: api.ErrSyntax, Line: 1, Col: 1},
		"where(blocks":                     {Code: api.ErrSyntax, Line: 1, Col: 7},
		"where(":                           {Code: api.ErrSyntax, Line: 1, Col: 6},
		"blocks:":                          {Code: api.ErrSyntax, Line: 1, Col: 1},
		"where(blocks, 007":                {Code: api.ErrSyntax, Line: 1, Col: 15},
		" blocks":                          {Code: api.ErrSyntax, Line: 1, Col: 2},
		"$ blocks:":                        {Code: api.ErrSyntax, Line: 1, Col: 1},
		"Blocks":                           {Code: api.ErrName, Line: 1, Col: 1},
		"Blocks(":                          {Code: api.ErrSyntax, Line: 1, Col: 1},
		"blocks cuts":                      {Code: api.ErrSyntax, Line: 1, Col: 8},
		"blocks)":                          {Code: api.ErrSyntax, Line: 1, Col: 7},
		"5":                                {Code: api.ErrSyntax, Line: 1, Col: 1},
		`"a"`:                              {Code: api.ErrSyntax, Line: 1, Col: 1},
		"(":                                {Code: api.ErrSyntax, Line: 1, Col: 1},
		"and(a = 1, b = 2)":                {Code: api.ErrSyntax, Line: 1, Col: 1},
		"union(blocks)":                    {Code: api.ErrSyntax, Line: 1, Col: 13},
		"union(blocks, cuts, x)":           {Code: api.ErrSyntax, Line: 1, Col: 19},
		"union(Blocks, 5)":                 {Code: api.ErrName, Line: 1, Col: 7},
		"union(5, Blocks)":                 {Code: api.ErrSyntax, Line: 1, Col: 7},
		"select(blocks)":                   {Code: api.ErrSyntax, Line: 1, Col: 14},
		"select(blocks,)":                  {Code: api.ErrSyntax, Line: 1, Col: 15},
		"select(blocks, Mass)":             {Code: api.ErrName, Line: 1, Col: 16},
		"select(blocks, count(x))":         {Code: api.ErrSyntax, Line: 1, Col: 16},
		"select(blocks, a b)":              {Code: api.ErrSyntax, Line: 1, Col: 18},
		"sum(blocks)":                      {Code: api.ErrSyntax, Line: 1, Col: 11},
		"sum(blocks, x":                    {Code: api.ErrSyntax, Line: 1, Col: 13},
		"where(blocks)":                    {Code: api.ErrSyntax, Line: 1, Col: 13},
		"where(blocks, mass)":              {Code: api.ErrSyntax, Line: 1, Col: 19},
		"where(blocks, mass + 5)":          {Code: api.ErrSyntax, Line: 1, Col: 20},
		"where(blocks, mass =)":            {Code: api.ErrSyntax, Line: 1, Col: 21},
		"where(blocks, mass =":             {Code: api.ErrSyntax, Line: 1, Col: 20},
		"where(blocks, mass = A)":          {Code: api.ErrName, Line: 1, Col: 22},
		"where(blocks, mass = a(":          {Code: api.ErrSyntax, Line: 1, Col: 22},
		"where(blocks, Mass = 5)":          {Code: api.ErrName, Line: 1, Col: 15},
		"where(blocks, 5 = mass)":          {Code: api.ErrSyntax, Line: 1, Col: 15},
		"where(blocks, where(a, b = 1))":   {Code: api.ErrSyntax, Line: 1, Col: 15},
		"where(blocks, not(a = 1, b = 1))": {Code: api.ErrSyntax, Line: 1, Col: 24},
		"where(blocks, or(a = 1))":         {Code: api.ErrSyntax, Line: 1, Col: 23},
		"where(blocks, a = 1, b = 2)":      {Code: api.ErrSyntax, Line: 1, Col: 20},
		"where(blocks, a = 1))":            {Code: api.ErrSyntax, Line: 1, Col: 21},
		strings.Repeat("a", 1001):          {Code: api.ErrTooMany, Line: 1, Col: 1001},
	} {
		if q, f := query.Parse(s); q != nil || f != want {
			t.Errorf("Parse(%q) = %v, %v, want %v", s, q, f, want)
		}
	}
	// Words of nodes that are not followed by a parenthesis are names; blanks and comments do not matter.
	for s, want := range map[string]string{
		"where": "where", "select(count,sum)": "select(count, sum)", "  where ( join , and=not )  # x": "where(join, and = not)", `where(a, b >"x y")`: `where(a, b > "x y")`, "count(count(count))": "count(count(count))",
	} {
		if got, e := query.Text(parse(t, s)); got != want || e != api.OK {
			t.Errorf("Text of %q = %q, %d", s, got, e)
		}
	}
	q := parse(t, `where(join(a, b), and(c = 1, d < "e"))`)
	want := []node{{Kind: query.Where, Left: 1, Test: 4}, {Kind: query.Join, Left: 2, Right: 3}, {Kind: query.From, Name: "a"}, {Kind: query.From, Name: "b"}, {Kind: query.And, Left: 5, Right: 6}, {Kind: query.Compare, Name: "c", Op: "=", Cell: num(1)}, {Kind: query.Compare, Name: "d", Op: "<", Cell: text("e")}}
	if !reflect.DeepEqual(q, want) {
		t.Errorf("Parse = %v", q)
	}
}

// P57.1, P1: tables.
func TestCheck(t *testing.T) {
	with := func(change func(l []query.Table)) []query.Table {
		list := tables()
		change(list)
		return list
	}
	for i, c := range []struct {
		list []query.Table
		e    api.Errno
	}{
		{nil, api.OK}, {make([]query.Table, 33), api.ErrTooMany}, {make([]query.Table, 32), api.ErrName},
		{with(func(l []query.Table) { l[1].Columns, l[0].Name = make([]string, 17), "B" }), api.ErrTooMany}, {with(func(l []query.Table) { l[1].Rows, l[0].Name = make([][]cell, 4097), "B" }), api.ErrTooMany},
		{with(func(l []query.Table) { l[1].Name, l[0].Columns[1] = "C", "name" }), api.ErrName}, {with(func(l []query.Table) { l[1].Columns[1], l[1].Name = "", "blocks" }), api.ErrName},
		{with(func(l []query.Table) { l[1].Name, l[0].Rows = "blocks", make([][]cell, 1) }), api.ErrDuplicate}, {with(func(l []query.Table) { l[1].Name = "a" }), api.ErrDuplicate}, {with(func(l []query.Table) { l[1].Columns[1], l[0].Rows = "name", make([][]cell, 1) }), api.ErrDuplicate},
		{with(func(l []query.Table) { l[1].Columns, l[1].Rows = nil, nil }), api.ErrInvalid}, {with(func(l []query.Table) { l[1].Rows[2] = l[1].Rows[2][:1] }), api.ErrInvalid}, {with(func(l []query.Table) { l[1].Rows[2] = append(l[1].Rows[2], num(1)) }), api.ErrInvalid},
		{with(func(l []query.Table) { l[1].Rows[2][1] = cell{N: 1, S: "a"} }), api.ErrInvalid}, {with(func(l []query.Table) { l[1].Rows[2][1] = cell{Text: true, N: 1} }), api.ErrInvalid}, {with(func(l []query.Table) { l[1].Rows[2][1] = text(" a") }), api.ErrInvalid}, {with(func(l []query.Table) { l[1].Rows[2][1] = text(strings.Repeat("a", 41)) }), api.ErrInvalid}, {with(func(l []query.Table) { l[1].Rows[2][1] = num(1000000000000001) }), api.ErrInvalid}, {with(func(l []query.Table) { l[1].Rows[2][1] = num(math.MinInt64) }), api.ErrInvalid},
		{with(func(l []query.Table) {
			l[1].Rows[2], l[0].Rows[0] = []cell{num(-1000000000000000), num(1000000000000000)}, []cell{text(""), text("A b")}
		}), api.OK},
	} {
		columns, e1 := query.Columns(c.list, nil)
		table, e2 := query.Run(c.list, nil)
		rewritten, e3 := query.Rewrite(c.list, nil)
		cost, e4 := query.Cost(c.list, nil)
		want := c.e
		if want == api.OK {
			want = api.ErrInvalid // no nodes
		}
		if e := query.Check(c.list); e != c.e || e1 != want || e2 != want || e3 != want || e4 != want || columns != nil || !reflect.DeepEqual(table, query.Table{}) || rewritten != nil || cost != 0 {
			t.Errorf("Check %d = %d, %d, %d, %d, %d", i, e, e1, e2, e3, e4)
		}
	}
}

// check checks that all functions refuse a query.
func check(t *testing.T, name string, q []node, want, wantText api.Errno) {
	t.Helper()
	columns, e1 := query.Columns(tables(), q)
	table, e2 := query.Run(tables(), q)
	rewritten, e3 := query.Rewrite(tables(), q)
	cost, e4 := query.Cost(tables(), q)
	s, e5 := query.Text(q)
	if e1 != want || e2 != want || e3 != want || e4 != want || e5 != wantText || columns != nil || !reflect.DeepEqual(table, query.Table{}) || rewritten != nil || cost != 0 || wantText != api.OK && s != "" {
		t.Errorf("%s: %d, %d, %d, %d, %d, want %d and %d", name, e1, e2, e3, e4, e5, want, wantText)
	}
}

// P57.2, P57.3, P57.4, P1: lists of nodes that are no queries.
func TestNodes(t *testing.T) {
	from := node{Kind: query.From, Name: "blocks"}
	test := node{Kind: query.Compare, Name: "mass", Op: "="}
	with := func(n node, change func(n *node)) node {
		change(&n)
		return n
	}
	for i, q := range [][]node{
		nil, {}, {test}, {{}}, {{Kind: 13}}, {{Kind: -1}}, {from, from},
		{with(from, func(n *node) { n.Left = 1 })}, {with(from, func(n *node) { n.Test = -1 })}, {with(from, func(n *node) { n.Columns = []string{"a"} })}, {with(from, func(n *node) { n.Op = "=" })}, {with(from, func(n *node) { n.Other = "a" })}, {with(from, func(n *node) { n.Cell.N = 1 })},
		{{Kind: query.Where, Left: 1, Test: 2}, from, from}, {{Kind: query.Where, Left: 1, Test: 2}, test, test}, {{Kind: query.Where, Left: 1, Test: 1}, from}, {{Kind: query.Where, Left: 0, Test: 2}, from, test}, {{Kind: query.Where, Left: 1, Test: 3}, from, test}, {{Kind: query.Where, Left: 1, Test: math.MinInt}, from, test}, {{Kind: query.Where, Left: 1, Test: 2, Name: "a"}, from, test}, {{Kind: query.Where, Left: 1, Test: 2}, from, test, from},
		{{Kind: query.Select, Left: 1}, from}, {{Kind: query.Select, Left: 1, Columns: []string{"a"}, Name: "b"}, from}, {{Kind: query.Select, Left: 1, Columns: []string{"a"}, Right: 1}, from},
		{{Kind: query.Join, Left: 1, Right: 1}, from}, {{Kind: query.Join, Left: 1}, from}, {{Kind: query.Join, Left: 1, Right: 2}, from, test}, {{Kind: query.Count, Left: 1, Name: "a"}, from}, {{Kind: query.Union, Left: 1, Right: 2, Columns: []string{"a"}}, from, from},
		{{Kind: query.Where, Left: 1, Test: 2}, from, with(test, func(n *node) { n.Op = "" })}, {{Kind: query.Where, Left: 1, Test: 2}, from, with(test, func(n *node) { n.Op = ">=" })}, {{Kind: query.Where, Left: 1, Test: 2}, from, with(test, func(n *node) { n.Other, n.Cell.N = "a", 1 })}, {{Kind: query.Where, Left: 1, Test: 2}, from, with(test, func(n *node) { n.Cell = cell{N: 1, S: "a"} })}, {{Kind: query.Where, Left: 1, Test: 2}, from, with(test, func(n *node) { n.Cell = text("a ") })}, {{Kind: query.Where, Left: 1, Test: 2}, from, with(test, func(n *node) { n.Cell = num(1000000000000001) })},
		{{Kind: query.Where, Left: 1, Test: 2}, from, {Kind: query.Not, Left: 3, Right: 3}, test}, {{Kind: query.Where, Left: 1, Test: 2}, from, {Kind: query.And, Left: 3, Right: 4}, test, from}, {{Kind: query.Where, Left: 1, Test: 2}, from, {Kind: query.And, Left: 3, Right: 2}, test}, {{Kind: query.Where, Left: 1, Test: 3}, from, test, {Kind: query.Not, Left: 2}},
		{{Kind: query.Where, Left: 2, Test: 3}, {Kind: query.From, Name: "B"}, from, test},
	} {
		check(t, "nodes "+strconv.Itoa(i), q, api.ErrInvalid, api.ErrInvalid)
	}
	check(t, "many nodes", make([]node, 201), api.ErrTooMany, api.ErrTooMany)
	for i, q := range [][]node{
		{{Kind: query.From}}, {{Kind: query.From, Name: "Blocks"}}, {{Kind: query.Select, Left: 1, Columns: []string{"mass", ""}}, {Kind: query.From, Name: "x"}}, {{Kind: query.Sum, Left: 1}, from}, {{Kind: query.Where, Left: 1, Test: 2}, from, with(test, func(n *node) { n.Other = "A" })}, {{Kind: query.Where, Left: 1, Test: 2}, from, with(test, func(n *node) { n.Name, n.Cell = "", text("") })},
	} {
		check(t, "names "+strconv.Itoa(i), q, api.ErrName, api.ErrName)
	}
	empty := []node{{Kind: query.Where, Left: 1, Test: 2}, from, with(test, func(n *node) { n.Cell = text("") })}
	if s, e := query.Text(empty); s != "" || e != api.ErrInvalid {
		t.Errorf("Text = %q, %d", s, e)
	}
	if _, e := query.Run(tables(), empty); e != api.OK {
		t.Errorf("Run = %d", e)
	}
	// A query whose nodes stand in another order has the same text.
	other := []node{{Kind: query.Join, Left: 2, Right: 1}, {Kind: query.From, Name: "cuts"}, from}
	if s, e := query.Text(other); s != "join(blocks, cuts)" || e != api.OK {
		t.Errorf("Text = %q, %d", s, e)
	}
	if got, e := query.Rewrite(tables(), other); !reflect.DeepEqual(got, parse(t, "join(blocks, cuts)")) || e != api.OK {
		t.Errorf("Rewrite = %v, %d", got, e)
	}
}

// P57.2: texts that are too long.
func TestLongTexts(t *testing.T) {
	nested := func(n int, name string) []node {
		var q []node
		for range n {
			q = append(q, node{Kind: query.Count, Left: len(q) + 1})
		}
		return append(q, node{Kind: query.From, Name: name})
	}
	if s, e := query.Text(nested(21, "a")); len(s) != 21*7+1 || e != api.OK { // 64 tokens
		t.Errorf("Text = %q, %d", s, e)
	}
	if s, e := query.Text(nested(22, "a")); s != "" || e != api.ErrTooMany {
		t.Errorf("Text = %q, %d", s, e)
	}
	name := strings.Repeat("n", 24)
	wide := []node{{Kind: query.Where, Left: 1, Test: 2}, {Kind: query.From, Name: name}}
	for range 8 {
		wide = append(wide, node{Kind: query.And, Left: len(wide) + 1, Right: len(wide) + 2}, node{Kind: query.Compare, Name: name, Op: "=", Cell: text(strings.Repeat("x", 40))})
	}
	wide = append(wide, node{Kind: query.Compare, Name: name, Op: "=", Cell: text(strings.Repeat("x", 40))})
	if s, e := query.Text(wide); s == "" || e != api.OK {
		t.Errorf("Text = %q, %d", s, e)
	}
	deep := []node{{Kind: query.Select, Left: 1, Columns: slices.Repeat([]string{name}, 30)}, {Kind: query.Select, Left: 2, Columns: []string{strings.Repeat("m", 24)}}, {Kind: query.From, Name: name}}
	if s, e := query.Text(deep); len(s) > 1000 || e != api.ErrTooMany && e != api.OK {
		t.Errorf("Text has %d bytes, %d", len(s), e)
	}
	deep[0].Columns = slices.Repeat([]string{name}, 40)
	if s, e := query.Text(deep); s != "" || e != api.ErrTooMany {
		t.Errorf("Text has %d bytes, %d", len(s), e)
	}
}

// P57.3, P1: errors of nodes; parts come before nodes, and the left one before the right one.
func TestNodeErrors(t *testing.T) {
	for s, want := range map[string]api.Errno{
		"walls": api.ErrUnknown, "select(blocks, weight)": api.ErrUnknown, "where(blocks, saw = 1)": api.ErrUnknown, "where(blocks, mass = saw)": api.ErrUnknown, "where(blocks, not(or(mass = 1, saw = 1)))": api.ErrUnknown, "sum(blocks, saw)": api.ErrUnknown, "sum(blocks, mass, saw)": api.ErrUnknown, "count(blocks, saw, saw)": api.ErrUnknown,
		"select(blocks, mass, mass)": api.ErrDuplicate, "count(blocks, mass, mass)": api.ErrDuplicate, "sum(blocks, mass, name, name)": api.ErrDuplicate, "count(count(blocks), count)": api.ErrDuplicate, "sum(sum(blocks, mass), sum, sum)": api.ErrDuplicate, "sum(sum(blocks, mass), sum)": api.OK, "count(sum(blocks, mass), sum)": api.OK,
		"union(blocks, cuts)": api.ErrConflict, "minus(blocks, cuts)": api.ErrConflict, "union(blocks, select(blocks, mass, name))": api.ErrConflict,
		"union(select(blocks, mass, mass), walls)": api.ErrDuplicate, "union(walls, select(blocks, mass, mass))": api.ErrUnknown, "select(union(blocks, cuts), weight)": api.ErrConflict, "select(walls, mass, mass)": api.ErrUnknown,
	} {
		q := parse(t, s)
		if want != api.OK {
			check(t, s, q, want, api.OK)
		} else if _, e := query.Run(tables(), q); e != api.OK {
			t.Errorf("Run of %q: %d", s, e)
		}
	}
	wide := []query.Table{{Name: "a"}, {Name: "b"}}
	for i := range 16 {
		wide[0].Columns = append(wide[0].Columns, "c"+strconv.Itoa(i))
		wide[1].Columns = append(wide[1].Columns, "c"+strconv.Itoa(i))
	}
	if columns, e := query.Columns(wide, parse(t, "join(a, b)")); len(columns) != 16 || e != api.OK {
		t.Errorf("Columns = %v, %d", columns, e)
	}
	wide[1].Columns[3] = "d"
	for _, s := range []string{"join(a, b)", "count(a, c0, c1, c2, c3, c4, c5, c6, c7, c8, c9, c10, c11, c12, c13, c14, c15)", "sum(a, c0, c0, c1, c2, c3, c4, c5, c6, c7, c8, c9, c10, c11, c12, c13, c14, c15)"} {
		if columns, e := query.Columns(wide, parse(t, s)); columns != nil || e != api.ErrTooMany {
			t.Errorf("Columns of %q = %v, %d", s, columns, e)
		}
	}
}

// P57.3, P1: errors of results.
func TestRunErrors(t *testing.T) {
	long := []query.Table{{Name: "a", Columns: []string{"x"}}, {Name: "b", Columns: []string{"y", "z"}}, {Name: "great", Columns: []string{"k", "n"}, Rows: [][]cell{{num(1), num(1000000000000000)}, {num(2), num(1)}, {num(3), num(-1)}}}}
	for i := range 4096 {
		long[0].Rows = append(long[0].Rows, []cell{num(int64(i))})
	}
	long[1].Rows = [][]cell{{num(1), num(1)}, {num(2), num(1)}}
	for s, want := range map[string]api.Errno{
		"a": api.OK, "join(a, b)": api.ErrTooMany, "join(a, where(b, y = 1))": api.OK, "union(a, select(great, n))": api.ErrConflict, "sum(great, n)": api.OK, "sum(where(great, k < 3), n)": api.ErrRange, "sum(where(great, k > 1), n)": api.OK, "join(join(a, b), sum(where(great, k < 3), n))": api.ErrTooMany, "join(sum(where(great, k < 3), n), join(a, b))": api.ErrRange, "count(join(a, a))": api.OK,
	} {
		q := parse(t, s)
		table, e := query.Run(long, q)
		cost, f := query.Cost(long, q)
		if e != want || f != want || want != api.OK && (cost != 0 || !reflect.DeepEqual(table, query.Table{})) {
			t.Errorf("Run of %q: %d, %d, want %d", s, e, f, want)
		}
	}
	long[0].Columns, long[1].Columns, long[1].Rows = []string{"y"}, []string{"y"}, [][]cell{{num(-1)}}
	if _, e := query.Run(long, parse(t, "union(a, b)")); e != api.ErrTooMany {
		t.Errorf("Run = %d", e)
	}
	if n, e := query.Cost(long, parse(t, "union(a, a)")); n != 3*4096 || e != api.OK {
		t.Errorf("Cost = %d, %d", n, e)
	}
}

// Rules: results share no memory with arguments or each other.
func TestMemory(t *testing.T) {
	list := tables()
	q := parse(t, "select(blocks, mass, name)")
	columns, _ := query.Columns(list, q)
	columns[0] = "x"
	table, _ := query.Run(list, q)
	table.Columns[0], table.Rows[0][0] = "x", num(99)
	rewritten, _ := query.Rewrite(list, q)
	rewritten[0].Columns[0] = "x"
	same, _ := query.Run(list, parse(t, "blocks"))
	same.Rows[0][0] = num(99)
	if !reflect.DeepEqual(list, tables()) || !reflect.DeepEqual(q, parse(t, "select(blocks, mass, name)")) {
		t.Error("a result shares memory with an argument")
	}
}
