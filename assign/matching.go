package assign

import (
	"slices"

	"gangsaw/api"
)

// none stands for no node.
const none = -1

// matching is a matching of a graph that grows. Right nodes that are locked keep their left nodes.
type matching struct {
	edges  [][]api.Edge // of each left node
	right  []int        // of each left node
	left   []int        // of each right node
	locked []bool       // of each right node
}

// greatest returns some greatest matching of a graph.
func greatest(g Graph) *matching {
	m := &matching{right: make([]int, g.Left), left: make([]int, g.Right), locked: make([]bool, g.Right)}
	rest := g.Edges
	for l := range m.right {
		n := 0
		for n < len(rest) && rest[n].Left == l {
			n++
		}
		m.edges = append(m.edges, rest[:n:n])
		rest = rest[n:]
		m.right[l] = none
	}
	for r := range m.left {
		m.left[r] = none
	}
	for l := range m.right {
		m.augment(l)
	}
	return m
}

// augment looks for an alternating path from one of the left nodes from the first one on that have no right node, and applies it.
func (m *matching) augment(first int) bool {
	seen := map[int]bool{}
	var find func(l int) bool
	find = func(l int) bool {
		for _, e := range m.edges[l] {
			r := e.Right
			if m.locked[r] || seen[r] {
				continue
			}
			seen[r] = true
			if m.left[r] == none || find(m.left[r]) {
				m.right[l], m.left[r] = r, l
				return true
			}
		}
		return false
	}
	for l := first; l < len(m.right); l++ {
		if m.right[l] == none && find(l) {
			return true
		}
	}
	return false
}

// lessen makes a greatest matching the least one of as many edges: each left node gets the least right node that it can have.
func (m *matching) lessen() {
	for l, edges := range m.edges {
		for _, e := range edges {
			if !m.locked[e.Right] && m.force(l, e.Right) {
				m.locked[e.Right] = true
				break
			}
		}
	}
}

// force gives a left node a right node, if the matching can keep its number of edges with what is behind the left node.
func (m *matching) force(l, r int) bool {
	before, owner := m.right[l], m.left[r]
	if before == r {
		return true
	}
	right, left := slices.Clone(m.right), slices.Clone(m.left)
	m.right[l], m.left[r], m.locked[r] = r, l, true
	if owner != none {
		m.right[owner] = none
	}
	if before != none {
		m.left[before] = none
	}
	if before == none || owner == none || m.augment(l+1) {
		return true
	}
	m.right, m.left, m.locked[r] = right, left, false
	return false
}

// reached returns which left and right nodes are reached by alternating paths from the left nodes that have no right node.
func (m *matching) reached() (left, right []bool) {
	left, right = make([]bool, len(m.right)), make([]bool, len(m.left))
	var visit func(l int)
	visit = func(l int) {
		left[l] = true
		for _, e := range m.edges[l] {
			if right[e.Right] {
				continue
			}
			right[e.Right] = true
			// A right node without a left one would end a path on which the matching could grow.
			visit(m.left[e.Right])
		}
	}
	for l, r := range m.right {
		if r == none {
			visit(l)
		}
	}
	return left, right
}
