// Package codec is layer 2: a canonical encoding of trees of numbers and texts, and a digest. See shared/doc/02-codec.md.
package codec

import (
	"cmp"
	"math/bits"
	"slices"
	"strconv"
	"strings"

	"gangsaw/api"
)

// The kinds of values.
const (
	Number = 1
	Text   = 2
	List   = 3
)

// Limits of values.
const (
	MaxDepth = 16
	MaxBytes = 1000000 // bytes of an encoding
)

// The first bytes of encodings.
const (
	numberByte = 'n'
	textByte   = 't'
	listByte   = 'l'
)

// The numbers of the digest.
const (
	digestStart  = 11400714819323198485
	digestFactor = 18397679294719823053
	digestTurn   = 7
	digestFold   = 32
	digestDigits = 16
)

// Value is a number (N), a text (S), or a list of values (Items).
type Value struct {
	Kind  int
	N     int64
	S     string
	Items []Value
}

// Num returns the value of a number.
func Num(n int64) Value { return Value{Kind: Number, N: n} }

// Str returns the value of a text.
func Str(s string) Value { return Value{Kind: Text, S: s} }

// Seq returns the value of a list.
func Seq(items ...Value) Value { return Value{Kind: List, Items: copied(items)} }

// Check returns OK for a value that can be encoded, or the first error.
func Check(v Value) api.Errno {
	if !possible(v) {
		return api.ErrInvalid
	}
	if depth(v) > MaxDepth || size(v) > MaxBytes {
		return api.ErrTooMany
	}
	return api.OK
}

// Encode returns the encoding of a value.
func Encode(v Value) (string, api.Errno) {
	if e := Check(v); e != api.OK {
		return "", e
	}
	var out []byte
	var put func(v Value)
	put = func(v Value) {
		switch v.Kind {
		case Number:
			out = appendCount(append(out, numberByte), foldSign(v.N))
		case Text:
			out = appendCount(append(out, textByte), uint64(len(v.S)))
			out = append(out, v.S...)
		case List:
			out = appendCount(append(out, listByte), uint64(len(v.Items)))
			for _, x := range v.Items {
				put(x)
			}
		}
	}
	put(v)
	return string(out), api.OK
}

// Decode returns the value of an encoding.
func Decode(s string) (Value, api.Errno) {
	v, n, e := First(s)
	if e != api.OK {
		return Value{}, e
	}
	if n < len(s) {
		return Value{}, api.ErrSyntax
	}
	return v, api.OK
}

// First returns the value with whose encoding a string begins, and the length of this encoding.
func First(s string) (Value, int, api.Errno) {
	if len(s) > MaxBytes {
		return Value{}, 0, api.ErrTooMany
	}
	r := reader{s: s}
	v, ok := r.value(MaxDepth)
	if !ok {
		return Value{}, 0, api.ErrSyntax
	}
	return v, r.at, api.OK
}

// Equal reports whether two values are the same.
func Equal(a, b Value) bool { return Compare(a, b) == 0 }

// Compare compares two values: numbers before texts before lists, then by what they contain.
func Compare(a, b Value) int {
	if c := cmp.Or(cmp.Compare(a.Kind, b.Kind), cmp.Compare(a.N, b.N), cmp.Compare(a.S, b.S)); c != 0 {
		return c
	}
	return slices.CompareFunc(a.Items, b.Items, Compare)
}

// Digest returns the digest of a string: 16 hexadecimal digits.
func Digest(s string) string {
	var h uint64 = digestStart
	for i := range len(s) {
		h = (bits.RotateLeft64(h, digestTurn) ^ uint64(s[i])) * digestFactor
	}
	h ^= h >> digestFold
	digits := strconv.FormatUint(h, 16)
	return strings.Repeat("0", digestDigits-len(digits)) + digits
}

func copied(items []Value) []Value {
	if len(items) == 0 {
		return nil
	}
	list := make([]Value, len(items))
	for i, x := range items {
		x.Items = copied(x.Items)
		list[i] = x
	}
	return list
}

func possible(v Value) bool {
	switch v.Kind {
	case Number:
		return v.S == "" && len(v.Items) == 0
	case Text:
		return v.N == 0 && len(v.Items) == 0
	case List:
		return v.N == 0 && v.S == "" && !slices.ContainsFunc(v.Items, func(x Value) bool { return !possible(x) })
	}
	return false
}

// The value is possible.
func depth(v Value) int {
	if v.Kind != List {
		return 0
	}
	most := 0
	for _, x := range v.Items {
		most = max(most, depth(x))
	}
	return most + 1
}

// The value is possible; the size is that of its encoding.
func size(v Value) int {
	switch v.Kind {
	case Number:
		return 1 + countSize(foldSign(v.N))
	case Text:
		return 1 + countSize(uint64(len(v.S))) + len(v.S)
	}
	sum := 1 + countSize(uint64(len(v.Items)))
	for _, x := range v.Items {
		sum += size(x)
	}
	return sum
}

// foldSign maps the numbers that are not negative to the even counts, and the others to the odd ones.
func foldSign(n int64) uint64 {
	if n < 0 {
		return ^(uint64(n) << 1)
	}
	return uint64(n) << 1
}

func unfoldSign(c uint64) int64 {
	if c&1 == 1 {
		return ^int64(c >> 1)
	}
	return int64(c >> 1)
}
