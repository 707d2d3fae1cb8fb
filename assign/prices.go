package assign

import (
	"math"

	"gangsaw/api"
)

// far stands for a right node that is not reached.
const far = math.MaxInt64

// pricing computes prices by adding the left nodes one after the other.
type pricing struct {
	costs       [][]int64 // by left and right nodes; far without an edge
	left, right []int64   // the prices
	owner       []int     // of each right node, its left node
}

// prices returns prices that hold and whose bound is the least cost of a matching of all left nodes, of which there is one.
func prices(g Graph) ([]int64, []int64) {
	p := &pricing{left: make([]int64, g.Left), right: make([]int64, g.Right)}
	for range g.Left {
		row := make([]int64, g.Right)
		for r := range row {
			row[r] = far
		}
		p.costs = append(p.costs, row)
	}
	for _, e := range g.Edges {
		p.costs[e.Left][e.Right] = e.Cost
	}
	for range g.Right {
		p.owner = append(p.owner, none)
	}
	for l := range g.Left {
		p.add(l)
	}
	return p.left, p.right
}

// add finds the cheapest path from a left node to a right node that is not owned, changes the prices by its lengths, and applies it.
func (p *pricing) add(l int) {
	least := make([]int64, len(p.right)) // the lengths of the ways that are known
	from := make([]int, len(p.right))    // the right nodes before, on these ways
	isDone := make([]bool, len(p.right))
	for r := range least {
		least[r], from[r] = far, none
	}
	// Only right nodes with least prices of 0 are not owned, so that the prices stay at least 0.
	at, current := none, l
	for {
		next := none
		for r, cost := range p.costs[current] {
			if isDone[r] {
				continue
			}
			if cost != far {
				if length := cost - p.left[current] + p.right[r]; length < least[r] {
					least[r], from[r] = length, at
				}
			}
			if least[r] != far && (next == none || least[r] < least[next]) {
				next = r
			}
		}
		p.shift(l, least[next], least, isDone)
		isDone[next] = true
		at = next
		if p.owner[at] == none {
			break
		}
		current = p.owner[at]
	}
	for at != none {
		before := from[at]
		if before == none {
			p.owner[at] = l
		} else {
			p.owner[at] = p.owner[before]
		}
		at = before
	}
}

// shift raises the prices of the new left node, of what is done and of its owners; all other ways become shorter by as much.
func (p *pricing) shift(l int, by int64, least []int64, isDone []bool) {
	p.left[l] += by
	for r := range least {
		switch {
		case isDone[r]:
			p.left[p.owner[r]] += by
			p.right[r] += by
		case least[r] != far:
			least[r] -= by
		}
	}
}

// tight returns the graph whose greatest matchings are the cheapest ones of a graph: it has the edges that cost exactly their prices, and further left nodes for the right nodes without a price, which need not be matched.
func tight(g Graph, left, right []int64) Graph {
	t := Graph{Left: g.Right, Right: g.Right}
	for _, e := range g.Edges {
		if left[e.Left]-right[e.Right] == e.Cost {
			t.Edges = append(t.Edges, e)
		}
	}
	for l := g.Left; l < t.Left; l++ {
		for r, p := range right {
			if p == 0 {
				t.Edges = append(t.Edges, api.Edge{Left: l, Right: r})
			}
		}
	}
	return t
}
