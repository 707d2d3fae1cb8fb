package assign

import (
	"slices"

	"gangsaw/api"
)

// change looks for the shortest alternating paths from a left node to right nodes without a left one. Left nodes have the level of their distance; a shortest path has one left node of each level.
type change struct {
	match  []int
	owner  []int // of each right node, its left node
	edges  [][]api.Edge
	level  []int // of each left node, none if it cannot be changed
	length int   // of the shortest paths, 0 if there are none
	// What has been decided: the left node that a path must have at a level, its right node, and the left nodes that no path may have.
	forced map[int]int
	to     map[int]int
	kept   map[int]bool
}

func newChange(g Graph, match []int, add int, fixed []int) *change {
	c := &change{match: slices.Clone(match), forced: map[int]int{}, to: map[int]int{}, kept: map[int]bool{}}
	for range g.Right {
		c.owner = append(c.owner, none)
	}
	for l, r := range match {
		if r != none {
			c.owner[r] = l
		}
		c.level = append(c.level, none)
		c.edges = append(c.edges, nil)
	}
	for _, e := range g.Edges {
		c.edges[e.Left] = append(c.edges[e.Left], e)
	}
	c.level[add] = 0
	for queue := []int{add}; len(queue) > 0 && c.length == 0; queue = queue[1:] {
		l := queue[0]
		for _, e := range c.edges[l] {
			o := c.owner[e.Right]
			if o == none {
				c.length = c.level[l] + 1
			} else if c.level[o] == none && !slices.Contains(fixed, o) {
				c.level[o] = c.level[l] + 1
				queue = append(queue, o)
			}
		}
	}
	c.forced[0] = add
	return c
}

// least returns the least list that a shortest path gives.
func (c *change) least() []int {
	result := slices.Clone(c.match)
	for l, edges := range c.edges {
		if c.level[l] == none || c.level[l] >= c.length {
			continue
		}
		for _, e := range edges {
			if c.decide(l, e.Right) {
				result[l] = e.Right
				break
			}
		}
	}
	return result
}

// decide decides that a left node has a right node, if there is a shortest path then.
func (c *change) decide(l, r int) bool {
	if r == c.match[l] {
		c.kept[l] = true
		if c.isPossible() {
			return true
		}
		delete(c.kept, l)
		return false
	}
	level := c.level[l]
	other, isForced := c.forced[level]
	if isForced && other != l {
		return false
	}
	c.forced[level], c.to[l] = l, r
	if c.isPossible() {
		return true
	}
	delete(c.to, l)
	if !isForced {
		delete(c.forced, level)
	}
	return false
}

// isPossible reports whether there is a shortest path with all that has been decided.
func (c *change) isPossible() bool {
	seen := map[int]bool{}
	var leads func(l, level int) bool
	leads = func(l, level int) bool {
		if c.kept[l] || c.level[l] != level || seen[l] {
			return false
		}
		if other, isForced := c.forced[level]; isForced && other != l {
			return false
		}
		seen[l] = true // A left node that was tried in vain need not be tried again.
		for _, e := range c.edges[l] {
			r, isDecided := c.to[l]
			if e.Right == c.match[l] || isDecided && r != e.Right {
				continue
			}
			o := c.owner[e.Right]
			if o == none && level == c.length-1 || o != none && leads(o, level+1) {
				return true
			}
		}
		return false
	}
	return leads(c.forced[0], 0)
}
