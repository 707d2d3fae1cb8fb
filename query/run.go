package query

import (
	"slices"

	"gangsaw/api"
)

// runner evaluates trees; cost counts the rows of all relations.
type runner struct {
	tables map[string]Table
	cost   int
}

func newRunner(list []Table) *runner {
	r := &runner{tables: map[string]Table{}}
	for _, t := range list {
		r.tables[t.Name] = t
	}
	return r
}

// run returns the rows of a relation, each once.
func (r *runner) run(t *tree) ([][]Cell, api.Errno) {
	var left, right [][]Cell
	var e api.Errno
	if t.left != nil {
		if left, e = r.run(t.left); e != api.OK {
			return nil, e
		}
	}
	if t.right != nil {
		if right, e = r.run(t.right); e != api.OK {
			return nil, e
		}
	}
	rows, e := r.rows(t, left, right)
	if e != api.OK {
		return nil, e
	}
	if len(rows) > MaxRows {
		return nil, api.ErrTooMany
	}
	r.cost += len(rows)
	return rows, api.OK
}

// rows returns the rows of a relation with those of its parts.
func (r *runner) rows(t *tree, left, right [][]Cell) ([][]Cell, api.Errno) {
	switch t.Kind {
	case From:
		return once(r.tables[t.Name].Rows), api.OK
	case Where:
		holds := t.test.holds(t.left.columns)
		return slices.DeleteFunc(slices.Clone(left), func(row []Cell) bool { return !holds(row) }), api.OK
	case Select:
		pick := picker(t.left.columns, t.Columns)
		var rows [][]Cell
		for _, row := range left {
			rows = append(rows, pick(row))
		}
		return once(rows), api.OK
	case Join:
		return join(t, left, right), api.OK
	case Count, Sum:
		return group(t, left)
	case Union:
		return once(slices.Concat(left, right)), api.OK
	}
	isRight := map[string]bool{}
	for _, row := range right {
		isRight[key(row)] = true
	}
	return slices.DeleteFunc(slices.Clone(left), func(row []Cell) bool { return isRight[key(row)] }), api.OK
}

// once returns the different rows of a list.
func once(list [][]Cell) [][]Cell {
	isThere := map[string]bool{}
	var rows [][]Cell
	for _, row := range list {
		if k := key(row); !isThere[k] {
			isThere[k] = true
			rows = append(rows, row)
		}
	}
	return rows
}

// picker returns the function that picks columns of rows.
func picker(columns, wanted []string) func(row []Cell) []Cell {
	var places []int
	for _, name := range wanted {
		places = append(places, slices.Index(columns, name))
	}
	return func(row []Cell) []Cell {
		picked := make([]Cell, 0, len(places))
		for _, i := range places {
			picked = append(picked, row[i])
		}
		return picked
	}
}

// join returns the rows of a join, or some more than are allowed. (Different pairs of rows give different rows.)
func join(t *tree, left, right [][]Cell) [][]Cell {
	others := t.others()
	common := slices.DeleteFunc(slices.Clone(t.right.columns), func(name string) bool { return slices.Contains(others, name) })
	leftCommon, rightCommon, pick := picker(t.left.columns, common), picker(t.right.columns, common), picker(t.right.columns, others)
	partners := map[string][][]Cell{}
	for _, row := range right {
		k := key(rightCommon(row))
		partners[k] = append(partners[k], pick(row))
	}
	var rows [][]Cell
	for _, row := range left {
		for _, partner := range partners[key(leftCommon(row))] {
			rows = append(rows, slices.Concat(row, partner))
			if len(rows) > MaxRows {
				return rows
			}
		}
	}
	return rows
}

// group returns the rows of a count or a sum.
func group(t *tree, left [][]Cell) ([][]Cell, api.Errno) {
	pick := picker(t.left.columns, t.Columns)
	number := func(row []Cell) int64 { return 1 }
	if t.Kind == Sum {
		at := slices.Index(t.left.columns, t.Name)
		number = func(row []Cell) int64 { return row[at].N }
	}
	place := map[string]int{}
	var rows [][]Cell
	for _, row := range left {
		picked := pick(row)
		k := key(picked)
		i, isThere := place[k]
		if !isThere {
			i = len(rows)
			place[k] = i
			rows = append(rows, append(picked, Cell{}))
		}
		rows[i][len(t.Columns)].N += number(row)
	}
	isTooGreat := func(row []Cell) bool { return !isNumber(row[len(t.Columns)].N) }
	if slices.ContainsFunc(rows, isTooGreat) {
		return nil, api.ErrRange
	}
	return rows, api.OK
}

// holds returns the function that says whether a test holds for a row with some columns.
func (t *tree) holds(columns []string) func(row []Cell) bool {
	switch t.Kind {
	case Compare:
		return t.compares(columns)
	case Not:
		part := t.left.holds(columns)
		return func(row []Cell) bool { return !part(row) }
	}
	left, right := t.left.holds(columns), t.right.holds(columns)
	if t.Kind == And {
		return func(row []Cell) bool { return left(row) && right(row) }
	}
	return func(row []Cell) bool { return left(row) || right(row) }
}

func (t *tree) compares(columns []string) func(row []Cell) bool {
	first := slices.Index(columns, t.Name)
	other := func(row []Cell) Cell { return t.Cell }
	if t.Other != "" {
		second := slices.Index(columns, t.Other)
		other = func(row []Cell) Cell { return row[second] }
	}
	sign := map[string]int{equal: 0, less: -1, greater: 1}[t.Op]
	return func(row []Cell) bool { return compareCells(row[first], other(row)) == sign }
}
