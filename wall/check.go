package wall

import (
	"cmp"
	"slices"

	"gangsaw/api"
	"gangsaw/lexer"
)

const maxTol = 100

// build returns the courses of a valid wall, or the first error.
func build(w api.Wall) ([][]api.Stone, api.Errno) {
	if e := checkStones(w); e != api.OK {
		return nil, e
	}
	var all [MaxCourse + 1][]api.Stone
	count := 0
	for _, s := range w.Stones {
		all[s.Course] = append(all[s.Course], s)
		count = max(count, s.Course+1)
	}
	courses := all[:count]
	for _, c := range courses {
		if len(c) == 0 {
			return nil, api.ErrNone
		}
		// The stones are sorted by name, which the sort preserves where they begin at the same place.
		slices.SortStableFunc(c, func(a, b api.Stone) int { return cmp.Compare(a.At.X, b.At.X) })
	}
	if e := checkCourses(w, courses); e != api.OK {
		return nil, e
	}
	return courses, api.OK
}

// checkStones checks what is checked of the wall and of each stone alone, and the order of the names.
func checkStones(w api.Wall) api.Errno {
	isIn := func(n, least, most int) bool { return n >= least && n <= most }
	isMisnamed := func(s api.Stone) bool { return !lexer.Name(s.Name) }
	isOutOfRange := func(s api.Stone) bool {
		return !isIn(s.Size.X, 1, api.MaxCoord) || !isIn(s.Size.Z, 1, api.MaxCoord) || !isIn(s.At.X, 0, api.MaxCoord) || !isIn(s.At.Z, 0, api.MaxCoord) || !isIn(s.Tol, 0, maxTol) || !isIn(s.Course, 0, MaxCourse)
	}
	switch {
	case len(w.Stones) > api.MaxStones:
		return api.ErrTooMany
	case !lexer.Name(w.Name) || slices.ContainsFunc(w.Stones, isMisnamed):
		return api.ErrName
	case !isIn(w.Length, 1, api.MaxCoord) || !isIn(w.Lap, 0, api.MaxCoord) || !isIn(w.Joint.Lo, 0, MaxJoint) || !isIn(w.Joint.Hi, 0, MaxJoint):
		return api.ErrRange
	case slices.ContainsFunc(w.Stones, isOutOfRange):
		return api.ErrRange
	case w.Joint.Lo > w.Joint.Hi:
		return api.ErrInvalid
	}
	for i := 1; i < len(w.Stones); i++ {
		if w.Stones[i-1].Name >= w.Stones[i].Name {
			return api.ErrDuplicate
		}
	}
	return api.OK
}

// checkCourses checks the joints within and between courses.
func checkCourses(w api.Wall, courses [][]api.Stone) api.Errno {
	isJoint := func(n int) bool { return n >= w.Joint.Lo && n <= w.Joint.Hi }
	for k, c := range courses {
		isUneven := func(s api.Stone) bool { return s.At.Z != c[0].At.Z || s.Size.Z != c[0].Size.Z }
		if slices.ContainsFunc(c, isUneven) {
			return api.ErrConflict
		}
		if k == 0 {
			continue
		}
		if below := courses[k-1][0]; !isJoint(c[0].At.Z - below.At.Z - below.Size.Z) {
			return api.ErrConflict
		}
	}
	for _, c := range courses {
		for i := 1; i < len(c); i++ {
			if c[i].At.X < end(c[i-1]) {
				return api.ErrOverlap
			}
		}
	}
	for _, c := range courses {
		if c[0].At.X != 0 || end(c[len(c)-1]) != w.Length {
			return api.ErrConflict
		}
		for i := 1; i < len(c); i++ {
			if !isJoint(c[i].At.X - end(c[i-1])) {
				return api.ErrConflict
			}
		}
	}
	return api.OK
}
