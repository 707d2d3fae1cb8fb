package parser

import (
	"slices"

	"gangsaw/api"
	"gangsaw/lexer"
)

// The forms of tokens, and the marks of the last string of a pattern.
const (
	anyForm  = "ANY"
	nameForm = "NAME"
	noMark   = 0
	anyMark  = '*'
	someMark = '+'
)

// Shape returns the fault of a line that does not have the form of a pattern of words and kinds of tokens.
func Shape(l api.Line, pattern []string) api.Fault {
	forms := slices.Clone(pattern)
	least, mark := len(forms), rune(noMark)
	if last := len(forms) - 1; last >= 0 {
		forms[last], mark = divide(forms[last])
		if mark == anyMark {
			least = last
		}
	}
	fits := matcher()
	for i, t := range l.Tokens {
		if i >= len(forms) && mark == noMark {
			return Bad(api.ErrSyntax, l, i)
		}
		if e := fits(t, forms[min(i, len(forms)-1)]); e != api.OK {
			return Bad(e, l, i)
		}
	}
	if len(l.Tokens) < least {
		return Bad(api.ErrSyntax, l, len(l.Tokens))
	}
	return api.Fault{}
}

// divide takes the mark from the end of a string of a pattern. A mark alone is a form.
func divide(s string) (string, rune) {
	for i, c := range s {
		if i > 0 && i == len(s)-1 && (c == anyMark || c == someMark) {
			return s[:i], c
		}
	}
	return s, noMark
}

// matcher returns the function that says whether a token has a form.
func matcher() func(t api.Token, form string) api.Errno {
	kinds := map[string]int{"WORD": api.TokWord, nameForm: api.TokWord, "NUMBER": api.TokNumber, "TEXT": api.TokText}
	return func(t api.Token, form string) api.Errno {
		kind, known := kinds[form]
		spelled := (t.Kind == api.TokWord || t.Kind == api.TokSign) && t.Text == form
		switch {
		case form == anyForm:
			return api.OK
		case known && t.Kind != kind, !known && !spelled:
			return api.ErrSyntax
		case form == nameForm && !lexer.Name(t.Text):
			return api.ErrName
		}
		return api.OK
	}
}
