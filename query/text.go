package query

import (
	"slices"
	"strconv"
	"strings"

	"gangsaw/api"
	"gangsaw/lexer"
)

const (
	opening = "("
	closing = ")"
	comma   = ","
	quote   = `"`
)

// relationWords and testWords return the words of nodes, with their kinds.
func relationWords() map[string]int {
	return map[string]int{"where": Where, "select": Select, "join": Join, "count": Count, "sum": Sum, "union": Union, "minus": Minus}
}

func testWords() map[string]int { return map[string]int{"and": And, "or": Or, "not": Not} }

// Text returns the canonical text of a query.
func Text(q []Node) (string, api.Errno) {
	if e := checkQuery(q); e != api.OK {
		return "", e
	}
	isEmpty := func(n Node) bool { return n.Cell.Text && n.Cell.S == "" }
	if slices.ContainsFunc(q, isEmpty) {
		return "", api.ErrInvalid
	}
	words := map[int]string{}
	for _, list := range [2]map[string]int{relationWords(), testWords()} {
		for word, kind := range list {
			words[kind] = word
		}
	}
	text := grow(q, 0).text(words)
	// Names, labels and numbers can always be scanned, so that only the length can be wrong.
	if _, f := lexer.Scan(text); f.Code != api.OK {
		return "", api.ErrTooMany
	}
	return text, api.OK
}

// text returns the text of a tree, with the words of the kinds.
func (t *tree) text(words map[int]string) string {
	switch t.Kind {
	case From:
		return t.Name
	case Compare:
		return strings.Join([]string{t.Name, t.Op, t.operand()}, " ")
	}
	var list []string
	for _, part := range [3]*tree{t.left, t.right, t.test} {
		if part != nil {
			list = append(list, part.text(words))
		}
	}
	if t.Kind == Sum {
		list = append(list, t.Name)
	}
	list = append(list, t.Columns...)
	return words[t.Kind] + opening + strings.Join(list, comma+" ") + closing
}

// operand returns the text of what a column is compared with.
func (t *tree) operand() string {
	switch {
	case t.Other != "":
		return t.Other
	case t.Cell.Text:
		return quote + t.Cell.S + quote
	}
	return strconv.FormatInt(t.Cell.N, 10)
}
