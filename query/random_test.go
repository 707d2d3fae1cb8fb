package query_test

import (
	"math/rand"
	"reflect"
	"slices"
	"testing"

	"gangsaw/api"
	"gangsaw/query"
)

// maker makes random queries about tables with the columns a, b, c and d.
type maker struct {
	r     *rand.Rand
	nodes []node
}

func (m *maker) tables() []query.Table {
	var list []query.Table
	for i, columns := range [][]string{{"a", "b"}, {"b", "c"}, {"a", "b"}, {"d"}} {
		t := query.Table{Name: string(rune('p' + i)), Columns: columns}
		for range m.r.Intn(6) {
			var row []cell
			for range columns {
				row = append(row, m.cell())
			}
			t.Rows = append(t.Rows, row)
		}
		list = append(list, t)
	}
	return list
}

func (m *maker) cell() cell {
	if m.r.Intn(4) == 0 {
		return text([]string{"x", "y"}[m.r.Intn(2)])
	}
	return num(int64(m.r.Intn(4) - 1))
}

func (m *maker) push(n node) int {
	m.nodes = append(m.nodes, n)
	return len(m.nodes) - 1
}

// relation appends a relation, and returns its node and its columns.
func (m *maker) relation(depth int) (int, []string) {
	if depth == 0 {
		i := m.r.Intn(4)
		return m.push(node{Kind: query.From, Name: string(rune('p' + i))}), [][]string{{"a", "b"}, {"b", "c"}, {"a", "b"}, {"d"}}[i]
	}
	kind := 2 + m.r.Intn(7)
	i := m.push(node{Kind: kind})
	left, columns := m.relation(depth - 1)
	m.nodes[i].Left = left
	some := slices.DeleteFunc(slices.Clone(columns), func(string) bool { return m.r.Intn(2) == 0 })
	m.r.Shuffle(len(some), func(i, k int) { some[i], some[k] = some[k], some[i] })
	switch kind {
	case query.Where:
		test := m.test(2, columns)
		m.nodes[i].Test = test
	case query.Select:
		if len(some) == 0 {
			some = columns[:1]
		}
		m.nodes[i].Columns, columns = slices.Clone(some), some
	case query.Join:
		right, others := m.relation(m.r.Intn(depth))
		m.nodes[i].Right = right
		columns = slices.Concat(columns, slices.DeleteFunc(slices.Clone(others), func(s string) bool { return slices.Contains(columns, s) }))
	case query.Count, query.Sum:
		added := "count"
		if kind == query.Sum {
			m.nodes[i].Name, added = columns[m.r.Intn(len(columns))], "sum"
		}
		some = slices.DeleteFunc(some, func(s string) bool { return s == added })
		m.nodes[i].Columns, columns = slices.Clone(some), slices.Concat(some, []string{added})
		if len(some) == 0 {
			m.nodes[i].Columns = nil
		}
	default: // of the relation itself, or a part of it
		right := m.again(left)
		m.nodes[i].Right = right
	}
	return i, columns
}

// again appends a relation like one that is there, with a test.
func (m *maker) again(i int) int {
	columns, e := query.Columns((&maker{r: rand.New(rand.NewSource(1))}).tables(), relabel(m.nodes, i))
	if e != api.OK {
		columns = nil
	}
	if columns == nil {
		return m.copy(i)
	}
	k := m.push(node{Kind: query.Where})
	left := m.copy(i)
	m.nodes[k].Left = left
	test := m.test(1, columns)
	m.nodes[k].Test = test
	return k
}

func (m *maker) copy(i int) int {
	n := m.nodes[i]
	k := m.push(n)
	if n.Left > 0 {
		part := m.copy(n.Left)
		m.nodes[k].Left = part
	}
	if n.Right > 0 {
		part := m.copy(n.Right)
		m.nodes[k].Right = part
	}
	if n.Test > 0 {
		part := m.copy(n.Test)
		m.nodes[k].Test = part
	}
	return k
}

// relabel returns the query of a node.
func relabel(nodes []node, i int) []node {
	m := &maker{nodes: slices.Clone(nodes)}
	begin := len(nodes)
	m.copy(i)
	list := m.nodes[begin:]
	for k := range list {
		for _, part := range []*int{&list[k].Left, &list[k].Right, &list[k].Test} {
			if *part > 0 {
				*part -= begin
			}
		}
	}
	return list
}

func (m *maker) test(depth int, columns []string) int {
	if depth == 0 || m.r.Intn(3) == 0 {
		n := node{Kind: query.Compare, Name: columns[m.r.Intn(len(columns))], Op: []string{"=", "<", ">"}[m.r.Intn(3)]}
		if m.r.Intn(3) == 0 {
			n.Other = columns[m.r.Intn(len(columns))]
		} else {
			n.Cell = m.cell()
		}
		return m.push(n)
	}
	i := m.push(node{Kind: query.And + m.r.Intn(3)})
	left := m.test(depth-1, columns)
	m.nodes[i].Left = left
	if m.nodes[i].Kind != query.Not {
		right := m.test(depth-1, columns)
		m.nodes[i].Right = right
	}
	return i
}

// naive evaluates a relation by its definition: every row is a map from columns to cells.
func naive(list []query.Table, q []node, i int) []map[string]cell {
	n := q[i]
	var left, right, rows []map[string]cell
	if n.Left > 0 {
		left = naive(list, q, n.Left)
	}
	if n.Right > 0 {
		right = naive(list, q, n.Right)
	}
	add := func(row map[string]cell) {
		if !slices.ContainsFunc(rows, func(x map[string]cell) bool { return reflect.DeepEqual(x, row) }) {
			rows = append(rows, row)
		}
	}
	isIn := func(rows []map[string]cell, row map[string]cell) bool {
		return slices.ContainsFunc(rows, func(x map[string]cell) bool { return reflect.DeepEqual(x, row) })
	}
	switch n.Kind {
	case query.From:
		for _, t := range list {
			for _, r := range t.Rows {
				row := map[string]cell{}
				for k, name := range t.Columns {
					row[name] = r[k]
				}
				if t.Name == n.Name {
					add(row)
				}
			}
		}
	case query.Join:
		for _, x := range left {
			for _, y := range right {
				if both, ok := merge(x, y); ok {
					add(both)
				}
			}
		}
	case query.Select, query.Count, query.Sum:
		for _, x := range left {
			row := map[string]cell{}
			for _, name := range n.Columns {
				row[name] = x[name]
			}
			if n.Kind != query.Select {
				group(n, row, left)
			}
			add(row)
		}
	default:
		for _, x := range slices.Concat(left, right) {
			isLeft := isIn(left, x)
			if n.Kind == query.Union || n.Kind == query.Minus && isLeft && !isIn(right, x) || n.Kind == query.Where && holds(q, n.Test, x) {
				add(x)
			}
		}
	}
	return rows
}

func merge(x, y map[string]cell) (map[string]cell, bool) {
	both := map[string]cell{}
	for name, c := range x {
		both[name] = c
	}
	for name, c := range y {
		if d, isThere := both[name]; isThere && c != d {
			return nil, false
		}
		both[name] = c
	}
	return both, true
}

func group(n node, row map[string]cell, left []map[string]cell) {
	count, sum := int64(0), int64(0)
	for _, x := range left {
		if !slices.ContainsFunc(n.Columns, func(name string) bool { return x[name] != row[name] }) {
			count++
			sum += x[n.Name].N
		}
	}
	if n.Kind == query.Count {
		row["count"] = num(count)
	} else {
		row["sum"] = num(sum)
	}
}

func holds(q []node, i int, row map[string]cell) bool {
	n := q[i]
	switch n.Kind {
	case query.And:
		return holds(q, n.Left, row) && holds(q, n.Right, row)
	case query.Or:
		return holds(q, n.Left, row) || holds(q, n.Right, row)
	case query.Not:
		return !holds(q, n.Left, row)
	}
	x, y := row[n.Name], n.Cell
	if n.Other != "" {
		y = row[n.Other]
	}
	less := func(x, y cell) bool {
		if x.Text != y.Text {
			return y.Text
		}
		return x.N < y.N || x.S < y.S
	}
	return map[string]bool{"=": x == y, "<": less(x, y), ">": less(y, x)}[n.Op]
}

// P57.2 to P57.5
func TestAgainstDefinitions(t *testing.T) {
	r := rand.New(rand.NewSource(1))
	full := 0
	for range 4000 {
		m := &maker{r: r}
		list := m.tables()
		m.relation(r.Intn(4))
		q := m.nodes
		got, e := query.Run(list, q)
		if e != api.OK {
			t.Fatalf("Run(%v, %v) = %d", list, q, e)
		}
		want := naive(list, q, 0)
		for k, row := range got.Rows {
			x := map[string]cell{}
			for i, name := range got.Columns {
				x[name] = row[i]
			}
			if !slices.ContainsFunc(want, func(y map[string]cell) bool { return reflect.DeepEqual(x, y) }) || k > 0 && !increases(got.Rows[k-1], row) {
				t.Fatalf("Run(%v, %v) = %v, want %v", list, q, got, want)
			}
		}
		if len(got.Rows) != len(want) || got.Name != "" {
			t.Fatalf("Run(%v, %v) = %v, want %v", list, q, got, want)
		}
		if len(want) > 0 {
			full++
		}
		checkRewritten(t, list, q, got)
		checkTwins(t, list, q, got)
	}
	if full < 1000 {
		t.Errorf("only %d results have rows", full)
	}
}

func increases(a, b []cell) bool {
	for i := range a {
		if a[i] == b[i] {
			continue
		}
		if a[i].Text != b[i].Text {
			return b[i].Text
		}
		return a[i].N < b[i].N || a[i].S < b[i].S
	}
	return false
}

func checkRewritten(t *testing.T, list []query.Table, q []node, want query.Table) {
	rewritten, e := query.Rewrite(list, q)
	if e == api.ErrTooMany {
		return
	}
	got, f := query.Run(list, rewritten)
	if e != api.OK || f != api.OK || !reflect.DeepEqual(got, want) {
		t.Fatalf("Rewrite(%v, %v) = %v, %d, with the result %v, %d, not %v", list, q, rewritten, e, got, f, want)
	}
	s, e := query.Text(rewritten)
	if e == api.ErrTooMany {
		return
	}
	if again, f := query.Parse(s); !reflect.DeepEqual(again, rewritten) || f != (api.Fault{}) || e != api.OK {
		t.Fatalf("Parse(%q) = %v, %v, want %v", s, again, f, rewritten)
	}
}

// checkTwins joins, unites and subtracts a query and itself.
func checkTwins(t *testing.T, list []query.Table, q []node, want query.Table) {
	for _, kind := range []int{query.Join, query.Union, query.Minus} {
		m := &maker{nodes: []node{{Kind: kind}}}
		for _, n := range q {
			for _, part := range []*int{&n.Left, &n.Right, &n.Test} {
				if *part > 0 {
					*part++
				}
			}
			m.nodes = append(m.nodes, n)
		}
		m.nodes[0].Left = 1
		right := m.copy(1)
		m.nodes[0].Right = right
		if len(m.nodes) > query.MaxParts {
			return
		}
		got, e := query.Run(list, m.nodes)
		if kind == query.Minus && len(got.Rows) != 0 || kind != query.Minus && !reflect.DeepEqual(got, want) || e != api.OK {
			t.Fatalf("Run(%v, %v) = %v, %d, want %v", list, m.nodes, got, e, want)
		}
	}
}
