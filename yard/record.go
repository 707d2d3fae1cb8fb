package yard

import (
	"slices"
	"strconv"
	"strings"

	"gangsaw/api"
	"gangsaw/lexer"
)

const (
	maxNames  = 8
	maxValues = 8
	blank     = " "
)

// Encode returns the record of a fact.
func Encode(f api.Fact) (string, api.Errno) {
	if e := checkRecord(f); e != api.OK {
		return "", e
	}
	words := slices.Concat([]string{f.Kind}, f.Names)
	for _, n := range f.Values {
		words = append(words, strconv.FormatInt(n, 10))
	}
	return strings.Join(words, blank), api.OK
}

// Decode returns the fact of a record.
func Decode(s string) (api.Fact, api.Errno) {
	words := strings.Split(s, blank)
	f := api.Fact{Kind: words[0]}
	for _, word := range words[1:] {
		n, err := strconv.ParseInt(word, 10, 64)
		switch {
		case err == nil && strconv.FormatInt(n, 10) == word:
			f.Values = append(f.Values, n)
		case len(f.Values) == 0 && lexer.Name(word):
			f.Names = append(f.Names, word)
		default:
			return api.Fact{}, api.ErrSyntax
		}
	}
	if checkRecord(f) != api.OK {
		return api.Fact{}, api.ErrSyntax
	}
	return f, api.OK
}

// checkRecord returns OK for a fact that has a record, or the first error.
func checkRecord(f api.Fact) api.Errno {
	switch {
	case len(f.Names) > maxNames || len(f.Values) > maxValues:
		return api.ErrTooMany
	case isMisnamed(f.Kind) || slices.ContainsFunc(f.Names, isMisnamed):
		return api.ErrName
	}
	return api.OK
}
