package boxpack

import (
	"iter"
	"slices"

	"gangsaw/api"
)

// size has the sides of a part by axes.
type size [3]int

// split is how a cut divides a part.
type split struct {
	axis, at    int
	left, right size
}

func sizeOf(v api.Vec) size { return size{v.X, v.Y, v.Z} }

func (s size) fits(into size) bool { return s[0] <= into[0] && s[1] <= into[1] && s[2] <= into[2] }

// sizes yields the sizes up to that of the problem with their indices in tables.
func sizes(p Problem) iter.Seq2[int, size] {
	return func(yield func(int, size) bool) {
		i := 0
		for z := range p.Size.Z {
			for y := range p.Size.Y {
				for x := range p.Size.X {
					if !yield(i, size{x + 1, y + 1, z + 1}) {
						return
					}
					i++
				}
			}
		}
	}
}

// number returns the number of a size in a table of the problem.
func number(p Problem, table []int64, s size) int64 {
	return table[((s[2]-1)*p.Size.Y+s[1]-1)*p.Size.X+s[0]-1]
}

// splits yields the cuts that can be made of a size: by axis, then by position.
func splits(s size, kerf int) iter.Seq[split] {
	return func(yield func(split) bool) {
		for axis := range s {
			for at := 1; at+kerf < s[axis]; at++ {
				c := split{axis, at, s, s}
				c.left[axis], c.right[axis] = at, s[axis]-at-kerf
				if !yield(c) {
					return
				}
			}
		}
	}
}

// leastNumber returns the least number that a table which bounds the values can have for a size, if it has the given ones for what is cut from it.
func leastNumber(p Problem, s size, table []int64) int64 {
	var n int64
	for _, x := range p.Items {
		if sizeOf(x.Size).fits(s) {
			n = max(n, x.Value)
		}
	}
	for c := range splits(s, p.Kerf) {
		n = max(n, number(p, table, c.left)+number(p, table, c.right))
	}
	return n
}

func leastTable(p Problem) []int64 {
	var numbers [MaxSide * MaxSide * MaxSide]int64
	count := 0
	for i, s := range sizes(p) {
		numbers[i] = leastNumber(p, s, numbers[:])
		count = i + 1
	}
	return slices.Clone(numbers[:count])
}

// firstBest returns the first best plan of the problem, however many nodes it has.
func firstBest(p Problem, table []int64) []api.Node {
	var plan []api.Node
	var add func(s, from size)
	add = func(s, from size) {
		best := number(p, table, s)
		if best == 0 {
			plan = append(plan, api.Node{Kind: api.Waste})
			return
		}
		for _, x := range p.Items {
			if sizeOf(x.Size).fits(s) && x.Value == best {
				plan = append(plan, api.Node{Kind: api.Product, Name: x.Name})
				return
			}
		}
		for c := range splits(s, p.Kerf) {
			if number(p, table, c.left)+number(p, table, c.right) != best {
				continue
			}
			cut := len(plan)
			plan = append(plan, api.Node{Kind: api.Cut, Axis: c.axis, At: from[c.axis] + c.at, Kerf: p.Kerf, Left: cut + 1})
			add(c.left, from)
			plan[cut].Right = len(plan)
			from[c.axis] += c.at + p.Kerf
			add(c.right, from)
			return
		}
	}
	add(sizeOf(p.Size), size{})
	return plan
}
