package query_test

import (
	"testing"

	"gangsaw/api"
	"gangsaw/query"
)

// P57.2 to P57.4: texts that look alike side by side, nodes that are parts of themselves, and as many nodes as there may be.
func TestEdges(t *testing.T) {
	list := []query.Table{{Name: "a", Columns: []string{"x", "y"}, Rows: [][]cell{{text("a:"), text("b")}, {text("a"), text(":b")}, {text("1:a"), text("")}, {text(""), text("1:a")}, {num(1), num(11)}, {num(11), num(1)}, {text("1"), num(1)}, {num(1), text("1")}}}}
	table, e := query.Run(list, parse(t, "a"))
	if len(table.Rows) != 8 || e != api.OK {
		t.Errorf("Run = %v, %d", table, e)
	}
	if table, e := query.Run(list, parse(t, "minus(a, select(a, x, y))")); len(table.Rows) != 0 || e != api.OK {
		t.Errorf("Run = %v, %d", table, e)
	}
	from := node{Kind: query.From, Name: "blocks"}
	check(t, "a loop", []node{from, {Kind: query.Count, Left: 1}}, api.ErrInvalid, api.ErrInvalid)
	check(t, "two loops", []node{from, {Kind: query.Count, Left: 2}, {Kind: query.Count, Left: 1}}, api.ErrInvalid, api.ErrInvalid)
	// Rewritten, each table has its own test.
	wide := func(count int) []node {
		q := []node{{Kind: query.Where, Left: 1}}
		for range count - 1 {
			q = append(q, node{Kind: query.Union, Left: len(q) + 1, Right: len(q) + 2}, from)
		}
		q = append(q, from)
		q[0].Test = len(q)
		return append(q, node{Kind: query.Compare, Name: "mass", Op: "="})
	}
	for n, want := range map[int]api.Errno{50: api.OK, 51: api.ErrTooMany} { // 4 nodes for each table, less 1
		got, e := query.Rewrite(tables(), wide(n))
		if e != want || e == api.OK && len(got) != 4*n-1 {
			t.Errorf("Rewrite over %d tables: %d nodes, %d", n, len(got), e)
		}
	}
	// With a Count above it, the rewritten query has exactly as many nodes as there may be.
	counted := []node{{Kind: query.Count, Left: 1}}
	for _, n := range wide(50) {
		for _, part := range []*int{&n.Left, &n.Right, &n.Test} {
			if *part > 0 {
				*part++
			}
		}
		counted = append(counted, n)
	}
	if got, e := query.Rewrite(tables(), counted); len(got) != query.MaxParts || e != api.OK {
		t.Errorf("Rewrite: %d nodes, %d", len(got), e)
	}
	q := []node{{Kind: query.Count, Left: 1}}
	for range 99 {
		q = append(q, node{Kind: query.Union, Left: len(q) + 1, Right: len(q) + 2}, from)
	}
	q = append(q, from)
	if n, e := query.Cost(tables(), q); len(q) != query.MaxParts || n != 199*3+1 || e != api.OK {
		t.Errorf("Cost of %d nodes = %d, %d", len(q), n, e)
	}
}
