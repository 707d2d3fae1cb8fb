package assign

import (
	"slices"

	"gangsaw/api"
)

// Check returns OK for a graph, or the first error.
func Check(g Graph) api.Errno {
	isOutOfRange := func(e api.Edge) bool {
		return e.Left < 0 || e.Left >= g.Left || e.Right < 0 || e.Right >= g.Right || e.Cost < 0 || e.Cost > MaxCost
	}
	switch {
	case g.Left < 0 || g.Right < 0:
		return api.ErrInvalid
	case g.Left > MaxSide || g.Right > MaxSide:
		return api.ErrTooMany
	case slices.ContainsFunc(g.Edges, isOutOfRange):
		return api.ErrRange
	}
	for i := 1; i < len(g.Edges); i++ {
		a, b := g.Edges[i-1], g.Edges[i]
		if a.Left > b.Left || a.Left == b.Left && a.Right >= b.Right {
			return api.ErrDuplicate
		}
	}
	return api.OK
}

// CheckMatching returns the number of edges of a matching, or the first error.
func CheckMatching(g Graph, match []int) (int, api.Errno) {
	if e := Check(g); e != api.OK {
		return 0, e
	}
	if len(match) != g.Left || slices.ContainsFunc(match, func(r int) bool { return r < none || r >= g.Right }) {
		return 0, api.ErrInvalid
	}
	count := 0
	for _, e := range g.Edges {
		if match[e.Left] == e.Right {
			count++
		}
	}
	matched := slices.DeleteFunc(slices.Clone(match), func(r int) bool { return r == none })
	if len(matched) > count {
		return 0, api.ErrNone
	}
	slices.Sort(matched)
	if len(slices.Compact(matched)) < count {
		return 0, api.ErrDuplicate
	}
	return count, api.OK
}

// CheckCover returns OK if nodes lie at every edge, or the index of the first edge that has none.
func CheckCover(g Graph, left, right []int) (int, api.Errno) {
	if e := Check(g); e != api.OK {
		return 0, e
	}
	if !isList(left, g.Left) || !isList(right, g.Right) {
		return 0, api.ErrInvalid
	}
	for i, e := range g.Edges {
		if !slices.Contains(left, e.Left) && !slices.Contains(right, e.Right) {
			return i, api.ErrConflict
		}
	}
	return len(g.Edges), api.OK
}

// CheckPrices returns the bound that prices prove, or the index of the first edge that is cheaper than its prices.
func CheckPrices(g Graph, left, right []int64) (int64, int, api.Errno) {
	if e := Check(g); e != api.OK {
		return 0, 0, e
	}
	isOutside := func(least int64) func(p int64) bool {
		return func(p int64) bool { return p < least || p > MaxPrice }
	}
	if len(left) != g.Left || len(right) != g.Right || slices.ContainsFunc(left, isOutside(-MaxPrice)) || slices.ContainsFunc(right, isOutside(0)) {
		return 0, 0, api.ErrInvalid
	}
	for i, e := range g.Edges {
		if left[e.Left]-right[e.Right] > e.Cost {
			return 0, i, api.ErrConflict
		}
	}
	return bound(left, right), len(g.Edges), api.OK
}

// isList reports whether a list of nodes, of so many, is strictly increasing.
func isList(list []int, count int) bool {
	before := none
	for _, n := range list {
		if n <= before || n >= count {
			return false
		}
		before = n
	}
	return true
}
