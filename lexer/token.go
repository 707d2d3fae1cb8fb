package lexer

import (
	"strconv"
	"strings"

	"gangsaw/api"
)

const (
	quote = `"`
	signs = "(),=:<>+/"
)

// Valid reports whether some line has a token.
func Valid(t api.Token) bool {
	switch t.Kind {
	case api.TokWord:
		return t.N == 0 && isWord(t.Text)
	case api.TokNumber:
		return t.Text == "" && inRange(t.N)
	case api.TokText:
		return t.N == 0 && Label(t.Text)
	case api.TokSign:
		return t.N == 0 && len(t.Text) == 1 && isSign(t.Text[0])
	}
	return false
}

// Spell returns the spelling of a token.
func Spell(t api.Token) (string, api.Errno) {
	if !Valid(t) {
		return "", api.ErrSyntax
	}
	switch t.Kind {
	case api.TokNumber:
		return strconv.FormatInt(t.N, 10), api.OK
	case api.TokText:
		return quote + t.Text + quote, api.OK
	}
	return t.Text, api.OK
}

// first returns the token with which a string that is not empty begins, and its length.
func first(s string) (api.Token, int, api.Errno) {
	switch c := s[0]; {
	case isLetter(c):
		return word(s)
	case isDigit(c) || c == '-':
		return number(s)
	case c == quote[0]:
		return text(s)
	case isSign(c):
		return api.Token{Kind: api.TokSign, Text: s[:1]}, 1, api.OK
	}
	return api.Token{}, 0, api.ErrSyntax
}

func word(s string) (api.Token, int, api.Errno) {
	size := run(s, isWordPart)
	if size > api.MaxLabel {
		return api.Token{}, 0, api.ErrName
	}
	return api.Token{Kind: api.TokWord, Text: s[:size]}, size, api.OK
}

func number(s string) (api.Token, int, api.Errno) {
	digits := strings.TrimPrefix(s, "-")
	count := run(digits, isDigit)
	size := len(s) - len(digits) + count
	follows := count < len(digits) && isWordPart(digits[count])
	if count == 0 || follows || digits[0] == '0' && size > 1 {
		return api.Token{}, 0, api.ErrSyntax
	}
	n, err := strconv.ParseInt(s[:size], 10, 64)
	if err != nil || !inRange(n) {
		return api.Token{}, 0, api.ErrRange
	}
	return api.Token{Kind: api.TokNumber, N: n}, size, api.OK
}

func text(s string) (api.Token, int, api.Errno) {
	label, _, closed := strings.Cut(s[1:], quote)
	switch {
	case !closed:
		return api.Token{}, 0, api.ErrSyntax
	case !Label(label):
		return api.Token{}, 0, api.ErrName
	}
	return api.Token{Kind: api.TokText, Text: label}, len(label) + 2*len(quote), api.OK
}

func isWord(s string) bool {
	return s != "" && len(s) <= api.MaxLabel && isLetter(s[0]) && run(s, isWordPart) == len(s)
}

func inRange(n int64) bool { return -MaxNumber <= n && n <= MaxNumber }

// run returns how many bytes at the begin of a string satisfy a condition.
func run(s string, holds func(byte) bool) int {
	n := 0
	for n < len(s) && holds(s[n]) {
		n++
	}
	return n
}

func isBlank(c byte) bool { return c == blank }

func isDigit(c byte) bool { return '0' <= c && c <= '9' }

func isSmall(c byte) bool { return 'a' <= c && c <= 'z' }

func isLetter(c byte) bool { return isSmall(c) || 'A' <= c && c <= 'Z' }

func isWordPart(c byte) bool { return isLetter(c) || isDigit(c) || c == '_' }

func isNamePart(c byte) bool { return isSmall(c) || isDigit(c) || c == '_' }

func isLabelPart(c byte) bool { return 32 <= c && c <= 126 && c != quote[0] }

func isSign(c byte) bool { return strings.IndexByte(signs, c) >= 0 }
