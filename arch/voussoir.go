package arch

import (
	"iter"
	"slices"

	"gangsaw/api"
)

// The corners of a voussoir.
const (
	innerLeft  = 0
	innerRight = 1
	outerRight = 2
	outerLeft  = 3
	corners    = 4
)

// Check returns OK for a valid arch, or the first error. A voussoir has the corners inner left, inner right, outer right, outer left.
func Check(list []api.Polygon) api.Errno {
	switch {
	case len(list) > MaxVoussoirs:
		return api.ErrTooMany
	case len(list) == 0 || slices.ContainsFunc(list, func(v api.Polygon) bool { return len(v) != corners }):
		return api.ErrInvalid
	case slices.ContainsFunc(list, isOutOfRange):
		return api.ErrRange
	case slices.ContainsFunc(list, func(v api.Polygon) bool { return !isConvex(v) }):
		return api.ErrInvalid
	}
	for i := 1; i < len(list); i++ {
		if list[i-1][innerRight] != list[i][innerLeft] || list[i-1][outerRight] != list[i][outerLeft] {
			return api.ErrConflict
		}
	}
	if left, right := springings(list); left.Y != right.Y || left.X >= right.X {
		return api.ErrState
	}
	for i, v := range list {
		if slices.ContainsFunc(list[:i], func(w api.Polygon) bool { return overlap(v, w) }) {
			return api.ErrOverlap
		}
	}
	return api.OK
}

// edges yields the edges of a polygon, from one corner to the next one.
func edges(v api.Polygon) iter.Seq2[api.Point, api.Point] {
	return func(yield func(p, q api.Point) bool) {
		for i, p := range v {
			if !yield(p, v[(i+1)%len(v)]) {
				return
			}
		}
	}
}

func isOutOfRange(v api.Polygon) bool {
	return slices.ContainsFunc(v, func(p api.Point) bool {
		return min(p.X, p.Y) < -api.MaxCoord || max(p.X, p.Y) > api.MaxCoord
	})
}

// side is positive for a point on the left of the way from p to q, and 0 on its line.
func side(p, q, point api.Point) int64 {
	return int64(q.X-p.X)*int64(point.Y-p.Y) - int64(q.Y-p.Y)*int64(point.X-p.X)
}

// isConvex reports whether each way along the corners of a voussoir turns to the left. (With four corners it goes around once then.)
func isConvex(v api.Polygon) bool {
	for i := range v {
		if side(v[i], v[(i+1)%corners], v[(i+2)%corners]) <= 0 {
			return false
		}
	}
	return true
}

// overlap reports whether two voussoirs have a common part of positive area: whether no edge of either one has the other one behind it.
func overlap(a, b api.Polygon) bool {
	separates := func(v, other api.Polygon) bool {
		for p, q := range edges(v) {
			if !slices.ContainsFunc(other, func(c api.Point) bool { return side(p, q, c) > 0 }) {
				return true
			}
		}
		return false
	}
	return !separates(a, b) && !separates(b, a)
}

func springings(list []api.Polygon) (left, right api.Point) {
	return list[0][innerLeft], list[len(list)-1][innerRight]
}

// line returns the left corner of the first voussoir and the right ones of all.
func line(list []api.Polygon, left, right int) api.Polygon {
	points := api.Polygon{list[0][left]}
	for _, v := range list {
		points = append(points, v[right])
	}
	return points
}

// mirrored returns a voussoir whose x are subtracted from a number, with left and right exchanged.
func mirrored(v api.Polygon, from int) api.Polygon {
	m := slices.Clone(v)
	for i := range m {
		m[i].X = from - m[i].X
	}
	m[innerLeft], m[innerRight], m[outerRight], m[outerLeft] = m[innerRight], m[innerLeft], m[outerLeft], m[outerRight]
	return m
}

// image returns the mirror image of an arch.
func image(list []api.Polygon) []api.Polygon {
	left, right := springings(list)
	var all []api.Polygon
	for _, v := range slices.Backward(list) {
		all = append(all, mirrored(v, left.X+right.X))
	}
	return all
}

func templates(list []api.Polygon) []api.Polygon {
	var all []api.Polygon
	for _, v := range list {
		t := slices.Clone(v)
		least := t[0]
		for _, c := range t {
			least.X, least.Y = min(least.X, c.X), min(least.Y, c.Y)
		}
		for i := range t {
			t[i].X, t[i].Y = t[i].X-least.X, t[i].Y-least.Y
		}
		all = append(all, t)
	}
	return all
}

// width returns the greatest x of a template.
func width(t api.Polygon) int {
	w := 0
	for _, c := range t {
		w = max(w, c.X)
	}
	return w
}
