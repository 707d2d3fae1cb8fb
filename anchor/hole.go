package anchor

import (
	"slices"

	"gangsaw/api"
)

// hole is a box by axes.
type hole struct {
	lo, hi [3]int
}

// axes returns the axes of the width and of the height of a face, and the one that is orthogonal to it.
func axes(face int) (width, height, across int) {
	switch face {
	case api.PlusX, api.MinusX:
		return api.AxisY, api.AxisZ, api.AxisX
	case api.PlusY, api.MinusY:
		return api.AxisX, api.AxisZ, api.AxisY
	}
	return api.AxisX, api.AxisY, api.AxisZ
}

// sides returns the width and the height of a face.
func sides(size api.Vec, face int) (int, int) {
	s := [3]int{size.X, size.Y, size.Z}
	width, height, _ := axes(face)
	return s[width], s[height]
}

// keeps returns OK for anchors that keep a rule, or the first error.
func keeps(size api.Vec, list []api.Anchor, r Rule) api.Errno {
	isNear := func(a api.Anchor) bool {
		w, h := sides(size, a.Face)
		far := max(r.Edge, a.Edge)
		return !isIn(a.At.X, far, w-far) || !isIn(a.At.Y, far, h-far)
	}
	if slices.ContainsFunc(list, isNear) {
		return api.ErrRange
	}
	for i, a := range list {
		isClose := func(b api.Anchor) bool {
			x, y := a.At.X-b.At.X, a.At.Y-b.At.Y
			return a.Face == b.Face && x*x+y*y < r.Space*r.Space
		}
		if slices.ContainsFunc(list[:i], isClose) {
			return api.ErrConflict
		}
	}
	return api.OK
}

// row returns the row of n anchors of a face, whether it keeps the rule or not.
func row(size api.Vec, face, n int, r Rule) []api.Anchor {
	w, h := sides(size, face)
	var list []api.Anchor
	for i := range n {
		x := w / 2
		if n > 1 {
			x = r.Edge + (w-2*r.Edge)*i/(n-1)
		}
		list = append(list, api.Anchor{Face: face, At: api.Point{X: x, Y: h / 2}, Edge: r.Edge})
	}
	return list
}

// drill returns the holes of anchors, as far as they lie in the stone.
func drill(size api.Vec, list []api.Anchor, radius, depth int) []hole {
	s := [3]int{size.X, size.Y, size.Z}
	var holes []hole
	for _, a := range list {
		var h hole
		part := func(axis, from, to int) { h.lo[axis], h.hi[axis] = max(from, 0), min(to, s[axis]) }
		width, height, across := axes(a.Face)
		part(width, a.At.X-radius, a.At.X+radius)
		part(height, a.At.Y-radius, a.At.Y+radius)
		if a.Face%2 == 1 {
			part(across, 0, depth)
		} else {
			part(across, s[across]-depth, s[across])
		}
		holes = append(holes, h)
	}
	return holes
}

func overlap(a, b hole) bool {
	for axis := range a.lo {
		if a.lo[axis] >= b.hi[axis] || b.lo[axis] >= a.hi[axis] {
			return false
		}
	}
	return true
}
