package guillotine

import (
	"iter"

	"gangsaw/api"
)

// visit is a node in the walk of a plan, with its box and the number of the cuts above it.
type visit struct {
	node  int
	depth int
	box   api.Box
}

// walk yields the nodes of a tree: a node, then the walks of its left and its right part.
func walk(size api.Vec, plan []api.Node) iter.Seq[visit] {
	return func(yield func(visit) bool) {
		var from func(v visit) bool
		from = func(v visit) bool {
			if !yield(v) {
				return false
			}
			n := plan[v.node]
			if n.Kind != api.Cut {
				return true
			}
			left, right := parts(v.box, n)
			return from(visit{n.Left, v.depth + 1, left}) && from(visit{n.Right, v.depth + 1, right})
		}
		from(visit{box: api.Box{Max: size}})
	}
}

// parts returns the boxes of the parts of a cut.
func parts(b api.Box, cut api.Node) (left, right api.Box) {
	lo := [3]int{b.Min.X, b.Min.Y, b.Min.Z}
	hi := [3]int{b.Max.X, b.Max.Y, b.Max.Z}
	return between(b, cut.Axis, lo[cut.Axis], cut.At), between(b, cut.Axis, cut.At+cut.Kerf, hi[cut.Axis])
}

// between returns what is like a box, but goes from one coordinate to another one along an axis.
func between(b api.Box, axis, from, to int) api.Box {
	switch axis {
	case api.AxisX:
		b.Min.X, b.Max.X = from, to
	case api.AxisY:
		b.Min.Y, b.Max.Y = from, to
	default:
		b.Min.Z, b.Max.Z = from, to
	}
	return b
}
