package vector

import (
	"cmp"

	"gangsaw/api"
)

// Turn returns 1 if the way from a by b to c turns to the left, -1 if it turns to the right, and 0 if the points lie on a line.
func Turn(a, b, c api.Point) (int, api.Errno) {
	if e := checkPoints(a, b, c); e != api.OK {
		return 0, e
	}
	return turn(a, b, c), api.OK
}

// On reports whether a point lies on the segment from a to b, its ends included.
func On(a, b, p api.Point) (bool, api.Errno) {
	if e := checkPoints(a, b, p); e != api.OK {
		return false, e
	}
	return meet(a, b, p, p) > 0, api.OK
}

// Meet returns how many points two segments have in common: 0, 1, or 2 for more than one.
func Meet(a, b, c, d api.Point) (int, api.Errno) {
	if e := checkPoints(a, b, c, d); e != api.OK {
		return 0, e
	}
	return meet(a, b, c, d), api.OK
}

func checkPoints(list ...api.Point) api.Errno {
	for _, p := range list {
		if e := Check(api.Vec{X: p.X, Y: p.Y}); e != api.OK {
			return e
		}
	}
	return api.OK
}

func turn(a, b, c api.Point) int {
	left := int64(b.X-a.X) * int64(c.Y-a.Y)
	right := int64(b.Y-a.Y) * int64(c.X-a.X)
	return cmp.Compare(left, right)
}

func meet(a, b, c, d api.Point) int {
	ends := [4]int{turn(a, b, c), turn(a, b, d), turn(c, d, a), turn(c, d, b)}
	if ends == [4]int{} {
		return meetOnLine(a, b, c, d)
	}
	if ends[0]*ends[1] <= 0 && ends[2]*ends[3] <= 0 {
		return 1
	}
	return 0
}

// meetOnLine is meet for points that lie on one line. Along it they are ordered as compare says.
func meetOnLine(a, b, c, d api.Point) int {
	lo := later(earlier(a, b), earlier(c, d))
	hi := earlier(later(a, b), later(c, d))
	return 1 - compare(lo, hi)
}

func compare(p, q api.Point) int {
	return cmp.Or(cmp.Compare(p.X, q.X), cmp.Compare(p.Y, q.Y))
}

func earlier(p, q api.Point) api.Point {
	if compare(q, p) < 0 {
		return q
	}
	return p
}

func later(p, q api.Point) api.Point {
	if compare(q, p) > 0 {
		return q
	}
	return p
}
