package flatpack

import (
	"iter"

	"gangsaw/api"
)

const (
	thickness  = 1 // of slabs and items
	maxInTable = 1000000000000000
)

// part is a part of a slab: its length and its width.
type part [2]int

// split is how a cut divides a part.
type split struct {
	axis, at    int
	left, right part
}

// Proves reports whether a table proves that no plan has a greater value than its last entry.
func Proves(length, width int, items []api.Item, kerf int, t Table) bool {
	if Check(length, width, items, kerf) != api.OK || !isTable(length, width, t) {
		return false
	}
	value := func(p part) int64 { return t[p[0]][p[1]] }
	for l := 1; l <= length; l++ {
		for w := 1; w <= width; w++ {
			if t[l][w] < least(part{l, w}, items, kerf, value) {
				return false
			}
		}
	}
	return true
}

// isTable reports whether a table has the indices of a slab, and numbers in their range.
func isTable(length, width int, t Table) bool {
	if len(t) != length+1 {
		return false
	}
	for _, row := range t {
		if len(row) != width+1 {
			return false
		}
		for _, n := range row {
			if n < 0 || n > maxInTable {
				return false
			}
		}
	}
	return true
}

// greatest returns the greatest values of all parts of a slab.
func greatest(length, width int, items []api.Item, kerf int) [MaxSize + 1][MaxSize + 1]int64 {
	var best [MaxSize + 1][MaxSize + 1]int64
	value := func(p part) int64 { return best[p[0]][p[1]] }
	for l := 1; l <= length; l++ {
		for w := 1; w <= width; w++ {
			best[l][w] = least(part{l, w}, items, kerf, value)
		}
	}
	return best
}

// least returns the least number that a sound table can have for a part, if it has the given values for what is cut from it.
func least(p part, items []api.Item, kerf int, value func(part) int64) int64 {
	var n int64
	for _, x := range items {
		if sizeOf(x) == p {
			n = max(n, x.Value)
		}
	}
	for s := range splits(p, kerf) {
		n = max(n, value(s.left)+value(s.right))
	}
	return n
}

func sizeOf(x api.Item) part { return part{x.Size.X, x.Size.Y} }

// splits yields the cuts that can be made of a part: along x, then along y, from the least position on.
func splits(p part, kerf int) iter.Seq[split] {
	return func(yield func(split) bool) {
		for axis := range p {
			for at := 1; at+kerf < p[axis]; at++ {
				s := split{axis, at, p, p}
				s.left[axis], s.right[axis] = at, p[axis]-at-kerf
				if !yield(s) {
					return
				}
			}
		}
	}
}

// firstPlan returns the first plan with the greatest value, however many nodes it has.
func firstPlan(length, width int, items []api.Item, kerf int) []api.Node {
	best := greatest(length, width, items, kerf)
	value := func(p part) int64 { return best[p[0]][p[1]] }
	var plan []api.Node
	var add func(p, from part)
	add = func(p, from part) {
		if value(p) == 0 {
			plan = append(plan, api.Node{Kind: api.Waste})
			return
		}
		for _, x := range items {
			if sizeOf(x) == p && x.Value == value(p) {
				plan = append(plan, api.Node{Kind: api.Product, Name: x.Name})
				return
			}
		}
		for s := range splits(p, kerf) {
			if value(s.left)+value(s.right) != value(p) {
				continue
			}
			cut := len(plan)
			plan = append(plan, api.Node{Kind: api.Cut, Axis: s.axis, At: from[s.axis] + s.at, Kerf: kerf, Left: cut + 1})
			add(s.left, from)
			plan[cut].Right = len(plan)
			from[s.axis] += s.at + kerf
			add(s.right, from)
			return
		}
	}
	add(part{length, width}, part{})
	return plan
}
