package query

import (
	"slices"

	"gangsaw/api"
)

// The columns that Count and Sum add.
const (
	countColumn = "count"
	sumColumn   = "sum"
)

// tree is a node with its parts; of relations, columns has those of the relation.
type tree struct {
	Node
	left, right, test *tree
	columns           []string
}

// grow returns the tree of a node of a query.
func grow(q []Node, i int) *tree {
	t := &tree{Node: q[i]}
	p, _ := partsOf(t.Kind)
	if p.left {
		t.left = grow(q, t.Left)
	}
	if p.right {
		t.right = grow(q, t.Right)
	}
	if p.test {
		t.test = grow(q, t.Test)
	}
	return t
}

// flatten returns the nodes of a tree in the order of the walk.
func flatten(t *tree) []Node {
	var list []Node
	var walk func(t *tree) int
	walk = func(t *tree) int {
		i := len(list)
		n := t.Node
		n.Columns = slices.Clone(n.Columns)
		list = append(list, n)
		if t.left != nil {
			left := walk(t.left)
			list[i].Left = left
		}
		if t.right != nil {
			right := walk(t.right)
			list[i].Right = right
		}
		if t.test != nil {
			test := walk(t.test)
			list[i].Test = test
		}
		return i
	}
	walk(t)
	return list
}

// columnsOf returns the columns of tables, by their names.
func columnsOf(list []Table) map[string][]string {
	columns := map[string][]string{}
	for _, t := range list {
		columns[t.Name] = t.Columns
	}
	return columns
}

// find finds the columns of the relations of a tree; it returns the error of the first node that has one, parts before the node.
func (t *tree) find(tables map[string][]string) api.Errno {
	for _, part := range [2]*tree{t.left, t.right} {
		if part == nil {
			continue
		}
		if e := part.find(tables); e != api.OK {
			return e
		}
	}
	if t.Kind == From {
		columns, isKnown := tables[t.Name]
		if !isKnown {
			return api.ErrUnknown
		}
		t.columns = columns
		return api.OK
	}
	if e := t.checkColumns(); e != api.OK {
		return e
	}
	switch t.Kind {
	case Select:
		t.columns = t.Columns
	case Join:
		t.columns = slices.Concat(t.left.columns, t.others())
	case Count:
		t.columns = slices.Concat(t.Columns, []string{countColumn})
	case Sum:
		t.columns = slices.Concat(t.Columns, []string{sumColumn})
	default:
		t.columns = t.left.columns
	}
	if len(t.columns) > MaxColumns {
		return api.ErrTooMany
	}
	if (t.Kind == Union || t.Kind == Minus) && !slices.Equal(t.left.columns, t.right.columns) {
		return api.ErrConflict
	}
	return api.OK
}

// checkColumns checks the columns that a node names.
func (t *tree) checkColumns() api.Errno {
	named := slices.Clone(t.Columns)
	if t.Kind == Sum {
		named = append(named, t.Name)
	}
	if t.test != nil {
		named = append(named, t.test.tested()...)
	}
	isAdded := t.Kind == Count && slices.Contains(t.Columns, countColumn) || t.Kind == Sum && slices.Contains(t.Columns, sumColumn)
	switch {
	case !contains(t.left.columns, named):
		return api.ErrUnknown
	case hasTwins(t.Columns) || isAdded:
		return api.ErrDuplicate
	}
	return api.OK
}

// tested returns the columns of a test.
func (t *tree) tested() []string {
	if t.Kind == Compare {
		if t.Other == "" {
			return []string{t.Name}
		}
		return []string{t.Name, t.Other}
	}
	columns := t.left.tested()
	if t.right != nil {
		columns = append(columns, t.right.tested()...)
	}
	return columns
}

// others returns the columns of the right part of a join that the left part does not have.
func (t *tree) others() []string {
	return slices.DeleteFunc(slices.Clone(t.right.columns), func(name string) bool { return slices.Contains(t.left.columns, name) })
}

// contains reports whether all columns of a list are among some columns.
func contains(columns, list []string) bool {
	return !slices.ContainsFunc(list, func(name string) bool { return !slices.Contains(columns, name) })
}

// rewrite returns the rewritten tree.
func rewrite(t *tree) *tree {
	if t.Kind == Where {
		result := rewrite(t.left)
		for _, test := range conjuncts(t.test) {
			result = push(test, result)
		}
		return result
	}
	changed := *t
	if t.left != nil {
		changed.left = rewrite(t.left)
	}
	if t.right != nil {
		changed.right = rewrite(t.right)
	}
	return &changed
}

func conjuncts(test *tree) []*tree {
	if test.Kind == And {
		return slices.Concat(conjuncts(test.left), conjuncts(test.right))
	}
	return []*tree{test}
}

// push returns a relation with a test as near to its tables as possible.
func push(test, t *tree) *tree {
	columns := test.tested()
	left := func() *tree {
		changed := *t
		changed.left = push(test, t.left)
		return &changed
	}
	right := func(t *tree) *tree {
		changed := *t
		changed.right = push(test, t.right)
		return &changed
	}
	switch t.Kind {
	case Where, Minus, Select:
		return left()
	case Union:
		return right(left())
	case Join:
		if contains(t.left.columns, columns) {
			return left()
		}
		if contains(t.right.columns, columns) {
			return right(t)
		}
	case Count, Sum:
		if contains(t.Columns, columns) {
			return left()
		}
	}
	return &tree{Node: Node{Kind: Where}, left: t, test: test, columns: t.columns}
}
