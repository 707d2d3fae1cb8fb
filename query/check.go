package query

import (
	"cmp"
	"slices"
	"strconv"

	"gangsaw/api"
	"gangsaw/lexer"
)

// The signs of comparisons.
const (
	equal   = "="
	less    = "<"
	greater = ">"
)

// Check returns OK for tables, or the first error.
func Check(list []Table) api.Errno {
	isAny := func(is func(t Table) bool) bool { return slices.ContainsFunc(list, is) }
	isMisnamed := func(s string) bool { return !lexer.Name(s) }
	isBadRow := func(t Table) func(row []Cell) bool {
		return func(row []Cell) bool { return len(row) != len(t.Columns) || slices.ContainsFunc(row, isNoCell) }
	}
	switch {
	case len(list) > MaxTables || isAny(func(t Table) bool { return len(t.Columns) > MaxColumns || len(t.Rows) > MaxRows }):
		return api.ErrTooMany
	case isAny(func(t Table) bool { return isMisnamed(t.Name) || slices.ContainsFunc(t.Columns, isMisnamed) }):
		return api.ErrName
	case isAny(func(t Table) bool { return hasTwins(t.Columns) }):
		return api.ErrDuplicate
	}
	for i := 1; i < len(list); i++ {
		if list[i-1].Name >= list[i].Name {
			return api.ErrDuplicate
		}
	}
	if isAny(func(t Table) bool { return len(t.Columns) == 0 || slices.ContainsFunc(t.Rows, isBadRow(t)) }) {
		return api.ErrInvalid
	}
	return api.OK
}

func isNoCell(c Cell) bool {
	if c.Text {
		return c.N != 0 || c.S != "" && !lexer.Label(c.S)
	}
	return c.S != "" || !isNumber(c.N)
}

func isNumber(n int64) bool { return n >= -lexer.MaxNumber && n <= lexer.MaxNumber }

func hasTwins(names []string) bool {
	for i, name := range names {
		if slices.Contains(names[:i], name) {
			return true
		}
	}
	return false
}

// compareCells compares cells: numbers come before texts.
func compareCells(a, b Cell) int {
	if a.Text != b.Text {
		if b.Text {
			return -1
		}
		return 1
	}
	return cmp.Or(cmp.Compare(a.N, b.N), cmp.Compare(a.S, b.S))
}

func compareRows(a, b []Cell) int { return slices.CompareFunc(a, b, compareCells) }

// key returns a string that is the same for equal lists of cells only.
func key(row []Cell) string {
	var s []byte
	for _, c := range row {
		if c.Text {
			s = strconv.AppendInt(append(s, 't'), int64(len(c.S)), 10)
			s = append(append(s, ':'), c.S...)
		} else {
			s = append(strconv.AppendInt(append(s, 'n'), c.N, 10), ':')
		}
	}
	return string(s)
}

// parts tells which fields a kind of nodes has.
type parts struct {
	name, columns, left, right, test bool
}

func partsOf(kind int) (parts, bool) {
	p, isKind := map[int]parts{
		From:    {name: true},
		Where:   {left: true, test: true},
		Select:  {columns: true, left: true},
		Join:    {left: true, right: true},
		Count:   {columns: true, left: true},
		Sum:     {name: true, columns: true, left: true},
		Union:   {left: true, right: true},
		Minus:   {left: true, right: true},
		Compare: {name: true},
		And:     {left: true, right: true},
		Or:      {left: true, right: true},
		Not:     {left: true},
	}[kind]
	return p, isKind
}

func isRelation(kind int) bool { return kind >= From && kind <= Minus }

func isTest(kind int) bool { return kind >= Compare && kind <= Not }

// checkQuery returns OK for a query whose names are names, or the first error.
func checkQuery(q []Node) api.Errno {
	isMisnamed := func(s string) bool { return !lexer.Name(s) }
	switch {
	case len(q) > MaxParts:
		return api.ErrTooMany
	case !isQuery(q):
		return api.ErrInvalid
	}
	for _, n := range q {
		p, _ := partsOf(n.Kind)
		if p.name && isMisnamed(n.Name) || n.Other != "" && isMisnamed(n.Other) || slices.ContainsFunc(n.Columns, isMisnamed) {
			return api.ErrName
		}
	}
	return api.OK
}

// isQuery reports whether nodes are a query, whatever their names are.
func isQuery(q []Node) bool {
	if len(q) == 0 || !isRelation(q[0].Kind) {
		return false
	}
	isPart := make([]bool, len(q))
	isPart[0] = true
	for i, n := range q {
		p, isKind := partsOf(n.Kind)
		if !isKind || !hasFields(n, p) {
			return false
		}
		fits := func(isThere bool, part int, isRight func(kind int) bool) bool {
			if !isThere {
				return part == 0
			}
			if part <= i || part >= len(q) || isPart[part] || !isRight(q[part].Kind) {
				return false
			}
			isPart[part] = true
			return true
		}
		same := isRelation
		if isTest(n.Kind) {
			same = isTest
		}
		if !fits(p.left, n.Left, same) || !fits(p.right, n.Right, same) || !fits(p.test, n.Test, isTest) {
			return false
		}
	}
	return !slices.Contains(isPart, false)
}

// hasFields reports whether a node has no other fields than those of its kind, its parts left aside.
func hasFields(n Node, p parts) bool {
	isCompare := n.Kind == Compare
	switch {
	case !p.name && n.Name != "" || !p.columns && len(n.Columns) > 0 || n.Kind == Select && len(n.Columns) == 0:
		return false
	case !isCompare:
		return n.Other == "" && n.Op == "" && n.Cell == Cell{}
	case n.Op != equal && n.Op != less && n.Op != greater:
		return false
	case n.Other != "":
		return n.Cell == Cell{}
	}
	return !isNoCell(n.Cell)
}
