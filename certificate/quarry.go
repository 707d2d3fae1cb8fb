package certificate

import (
	"cmp"
	"slices"

	"gangsaw/api"
	"gangsaw/bench"
	"gangsaw/extraction"
	"gangsaw/precedence"
	"gangsaw/support"
)

func checkOrder(c Claim) api.Errno {
	isOutside := func(n int) bool { return n < 0 || n >= c.Count }
	switch {
	case c.Count > MaxThings || len(c.Pairs) > MaxEdges:
		return api.ErrTooMany
	case c.Count < 0 || slices.ContainsFunc(c.Pairs, func(p [2]int) bool { return isOutside(p[0]) || isOutside(p[1]) }):
		return api.ErrRange
	}
	return api.OK
}

func makeOrder(c Claim) ([]string, []int64) {
	edges := slices.SortedFunc(slices.Values(c.Pairs), func(a, b [2]int) int { return cmp.Or(cmp.Compare(a[0], b[0]), cmp.Compare(a[1], b[1])) })
	cycle, _ := precedence.Cycle(precedence.Graph{Count: c.Count, Edges: slices.Compact(edges)})
	return nil, numbersOf(cycle)
}

// provesOrder reports whether things come before each other, and the last one before the first one.
func provesOrder(c Claim, names []string, numbers []int64) bool {
	if len(names) > 0 || len(numbers) == 0 {
		return false
	}
	isPair := map[[2]int64]bool{}
	for _, p := range c.Pairs {
		isPair[[2]int64{int64(p[0]), int64(p[1])}] = true
	}
	before := numbers[len(numbers)-1]
	for _, n := range numbers {
		if !isPair[[2]int64{before, n}] {
			return false
		}
		before = n
	}
	return true
}

func checkFree(c Claim) api.Errno {
	_, e := bench.Find(c.Site, c.Goal)
	return e
}

func makeFree(c Claim) ([]string, []int64) {
	greatest, _ := extraction.Greatest(c.Site)
	var names []string
	for _, b := range c.Site.Blocks {
		if !slices.Contains(greatest, b.Name) {
			names = append(names, b.Name)
		}
	}
	return names, nil
}

// provesFree reports whether none of some blocks, the goal among them, can be freed when all others are taken, so that none of them can be the first one.
func provesFree(c Claim, names []string, numbers []int64) bool {
	if len(numbers) > 0 || !slices.Contains(names, c.Goal) {
		return false
	}
	for i := 1; i < len(names); i++ {
		if names[i-1] >= names[i] {
			return false
		}
	}
	var taken []string
	for _, b := range c.Site.Blocks {
		if !slices.Contains(names, b.Name) {
			taken = append(taken, b.Name)
		}
	}
	for _, name := range names {
		reason, e := support.Why(c.Site, taken, name)
		if e != api.OK || reason.Kind == support.Possible || reason.Kind == support.Gone {
			return false
		}
	}
	return true
}

func numbersOf(list []int) []int64 {
	var numbers []int64
	for _, n := range list {
		numbers = append(numbers, int64(n))
	}
	return numbers
}
