package wall

import (
	"slices"

	"gangsaw/api"
)

// course is what is to be laid out.
type course struct {
	length, joint int
	sizes         []int
	mayEnd        [MaxLayout + 1]bool // whether a stone with a joint behind it may end at a position
}

// Layout returns the first sequence of lengths that fills a course of a length with joints of a width, at least lap away from the joints below.
func Layout(length, joint, lap int, sizes, below []int) ([]int, api.Errno) {
	if e := checkLayout(length, joint, lap, sizes, below); e != api.OK {
		return nil, e
	}
	c := newCourse(length, joint, lap, sizes, below)
	var fills [MaxLayout + 1]bool // whether stones can fill the course from a position on
	next := func(at int) (int, bool) {
		for _, size := range c.sizes {
			end := at + size
			if end == c.length || end+c.joint < c.length && c.mayEnd[end] && fills[end+c.joint] {
				return size, true
			}
		}
		return 0, false
	}
	for at := length - 1; at >= 0; at-- {
		_, fills[at] = next(at)
	}
	if !fills[0] {
		return nil, api.ErrNone
	}
	var list []int
	for at := 0; at < length; {
		size, _ := next(at)
		list = append(list, size)
		at += size + joint
	}
	return list, api.OK
}

// Laid reports whether a sequence of lengths is such a course.
func Laid(length, joint, lap int, sizes, below, list []int) bool {
	if checkLayout(length, joint, lap, sizes, below) != api.OK {
		return false
	}
	c := newCourse(length, joint, lap, sizes, below)
	at := 0
	for i, size := range list {
		if !slices.Contains(sizes, size) || at+size > length {
			return false
		}
		end := at + size
		if i == len(list)-1 {
			return end == length
		}
		if !c.mayEnd[end] {
			return false
		}
		at = end + joint
	}
	return false
}

// Reach returns the positions at which a stone may begin in some beginning of a course.
func Reach(length, joint, lap int, sizes, below []int) ([]int, api.Errno) {
	if e := checkLayout(length, joint, lap, sizes, below); e != api.OK {
		return nil, e
	}
	c := newCourse(length, joint, lap, sizes, below)
	var isReached [MaxLayout + 1]bool
	isReached[0] = true
	var list []int
	for at := range length {
		if !isReached[at] {
			continue
		}
		list = append(list, at)
		for _, size := range sizes {
			if end := at + size; end+joint < length && c.mayEnd[end] {
				isReached[end+joint] = true
			}
		}
	}
	return list, api.OK
}

// checkLayout checks the arguments of Layout.
func checkLayout(length, joint, lap int, sizes, below []int) api.Errno {
	isOutside := func(least, most int) func(n int) bool {
		return func(n int) bool { return n < least || n > most }
	}
	switch {
	case len(sizes) > MaxSizes || len(below) > MaxBelow:
		return api.ErrTooMany
	case isOutside(1, MaxLayout)(length) || isOutside(0, MaxJoint)(joint) || isOutside(0, MaxLayout)(lap):
		return api.ErrRange
	case slices.ContainsFunc(sizes, isOutside(1, MaxLayout)) || slices.ContainsFunc(below, isOutside(0, 2*MaxLayout)):
		return api.ErrRange
	case len(sizes) == 0:
		return api.ErrInvalid
	}
	for i := 1; i < len(sizes); i++ {
		if sizes[i-1] >= sizes[i] {
			return api.ErrInvalid
		}
	}
	return api.OK
}

// newCourse finds out behind which positions a joint is far enough from those below.
func newCourse(length, joint, lap int, sizes, below []int) *course {
	c := &course{length: length, joint: joint, sizes: sizes}
ends:
	for end := range length {
		for _, middle := range below {
			if !isApart(2*end+joint, middle, lap) {
				continue ends
			}
		}
		c.mayEnd[end] = true
	}
	return c
}
