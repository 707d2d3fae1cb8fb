// Package span is layer 1: intervals of integers and sets of them. See shared/doc/01-span.md.
package span

import (
	"cmp"
	"slices"

	"gangsaw/api"
)

// Limits of intervals.
const (
	MaxNumber = 1000000000000
	MaxList   = 10000
)

// Check returns OK for a valid interval, or the first error.
func Check(a api.Interval) api.Errno { return checkEach(a) }

// Contains reports whether a number lies in an interval.
func Contains(a api.Interval, n int) bool { return a.Lo <= n && n <= a.Hi }

// Within reports whether all numbers of a lie in b.
func Within(a, b api.Interval) bool {
	return a.Lo > a.Hi || b.Lo <= a.Lo && a.Hi <= b.Hi
}

// Length returns how many numbers an interval has, or 0 if it is not valid.
func Length(a api.Interval) int {
	if Check(a) != api.OK {
		return 0
	}
	return a.Hi - a.Lo + 1
}

// Add returns the interval of all sums of a number of a and one of b.
func Add(a, b api.Interval) (api.Interval, api.Errno) {
	if e := checkEach(a, b); e != api.OK {
		return api.Interval{}, e
	}
	return bounded(api.Interval{Lo: a.Lo + b.Lo, Hi: a.Hi + b.Hi})
}

// Sub returns the interval of all differences of a number of a and one of b.
func Sub(a, b api.Interval) (api.Interval, api.Errno) {
	if e := checkEach(a, b); e != api.OK {
		return api.Interval{}, e
	}
	return bounded(api.Interval{Lo: a.Lo - b.Hi, Hi: a.Hi - b.Lo})
}

// Sum returns the interval of all sums of one number of each interval.
func Sum(list []api.Interval) (api.Interval, api.Errno) {
	if e := checkLists(list); e != api.OK {
		return api.Interval{}, e
	}
	var sum api.Interval
	for _, x := range list {
		sum.Lo += x.Lo
		sum.Hi += x.Hi
	}
	return bounded(sum)
}

// Intersect returns the common numbers.
func Intersect(a, b api.Interval) (api.Interval, api.Errno) {
	if e := checkEach(a, b); e != api.OK {
		return api.Interval{}, e
	}
	both, ok := overlap(a, b)
	if !ok {
		return api.Interval{}, api.ErrNone
	}
	return both, api.OK
}

// Hull returns the least interval that contains both.
func Hull(a, b api.Interval) (api.Interval, api.Errno) {
	if e := checkEach(a, b); e != api.OK {
		return api.Interval{}, e
	}
	return api.Interval{Lo: min(a.Lo, b.Lo), Hi: max(a.Hi, b.Hi)}, api.OK
}

// Normalize returns the set of all numbers of intervals: increasing, not touching.
func Normalize(list []api.Interval) ([]api.Interval, api.Errno) {
	if e := checkLists(list); e != api.OK {
		return nil, e
	}
	return normal(list), api.OK
}

// Union returns the set of the numbers of one list or the other.
func Union(a, b []api.Interval) ([]api.Interval, api.Errno) {
	if e := checkLists(a, b); e != api.OK {
		return nil, e
	}
	return normal(a, b), api.OK
}

// Minus returns the set of the numbers of a that are not in b.
func Minus(a, b []api.Interval) ([]api.Interval, api.Errno) {
	if e := checkLists(a, b); e != api.OK {
		return nil, e
	}
	return difference(normal(a), normal(b)), api.OK
}

// Common returns the set of the numbers of both lists.
func Common(a, b []api.Interval) ([]api.Interval, api.Errno) {
	if e := checkLists(a, b); e != api.OK {
		return nil, e
	}
	return common(normal(a), normal(b)), api.OK
}

// Count returns how many numbers the intervals of a list have together, each counted once.
func Count(list []api.Interval) (int, api.Errno) {
	if e := checkLists(list); e != api.OK {
		return 0, e
	}
	count := 0
	for _, x := range normal(list) {
		count += x.Hi - x.Lo + 1
	}
	return count, api.OK
}

func checkLists(lists ...[]api.Interval) api.Errno {
	for _, list := range lists {
		if len(list) > MaxList {
			return api.ErrTooMany
		}
	}
	return checkEach(slices.Concat(lists...)...)
}

// The range of all intervals is checked before the order of the ends of any.
func checkEach(list ...api.Interval) api.Errno {
	for _, x := range list {
		if !inRange(x) {
			return api.ErrRange
		}
	}
	for _, x := range list {
		if x.Lo > x.Hi {
			return api.ErrInvalid
		}
	}
	return api.OK
}

func inRange(a api.Interval) bool {
	return a == (api.Interval{Lo: clamp(a.Lo), Hi: clamp(a.Hi)})
}

func clamp(n int) int { return max(-MaxNumber, min(n, MaxNumber)) }

func bounded(a api.Interval) (api.Interval, api.Errno) {
	if !inRange(a) {
		return api.Interval{}, api.ErrRange
	}
	return a, api.OK
}

func overlap(a, b api.Interval) (api.Interval, bool) {
	both := api.Interval{Lo: max(a.Lo, b.Lo), Hi: min(a.Hi, b.Hi)}
	return both, both.Lo <= both.Hi
}

func normal(lists ...[]api.Interval) []api.Interval {
	sorted := slices.Concat(lists...)
	slices.SortFunc(sorted, func(a, b api.Interval) int { return cmp.Compare(a.Lo, b.Lo) })
	var merged []api.Interval
	for _, x := range sorted {
		last := len(merged) - 1
		if last >= 0 && x.Lo <= merged[last].Hi+1 {
			merged[last].Hi = max(merged[last].Hi, x.Hi)
		} else {
			merged = append(merged, x)
		}
	}
	return merged
}

// Both lists are in normal form, and so is the result.
func difference(a, b []api.Interval) []api.Interval {
	var rest []api.Interval
	next := 0
	for _, x := range a {
		// An interval of b may reach into several intervals of a: only those that end before x are done with.
		for next < len(b) && b[next].Hi < x.Lo {
			next++
		}
		lo := x.Lo
		for _, y := range b[next:] {
			if y.Lo > x.Hi {
				break
			}
			if lo < y.Lo {
				rest = append(rest, api.Interval{Lo: lo, Hi: y.Lo - 1})
			}
			lo = y.Hi + 1
		}
		if lo <= x.Hi {
			rest = append(rest, api.Interval{Lo: lo, Hi: x.Hi})
		}
	}
	return rest
}

// Both lists are in normal form, and so is the result.
func common(a, b []api.Interval) []api.Interval {
	var both []api.Interval
	for len(a) > 0 && len(b) > 0 {
		if x, ok := overlap(a[0], b[0]); ok {
			both = append(both, x)
		}
		if a[0].Hi < b[0].Hi {
			a = a[1:]
		} else {
			b = b[1:]
		}
	}
	return both
}
