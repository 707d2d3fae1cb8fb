package tolerance

import (
	"slices"

	"gangsaw/api"
)

const (
	maxJoint = 1000
	maxAt    = 1000000000
)

// Check returns OK for a valid run, or the first error.
func Check(r Run) api.Errno {
	n := len(r.Lengths)
	isBad := func(least, most int) func(i api.Interval) bool {
		return func(i api.Interval) bool { return i.Lo < least || i.Lo > i.Hi || i.Hi > most }
	}
	switch {
	case n > api.MaxStones:
		return api.ErrTooMany
	case n == 0:
		return api.ErrInvalid
	case slices.ContainsFunc(r.Lengths, isBad(1, api.MaxCoord)) || isBad(0, maxJoint)(r.Joint):
		return api.ErrRange
	}
	before := 0
	for _, p := range r.Places {
		if p.Index <= before || p.Index > n {
			return api.ErrInvalid
		}
		before = p.Index
	}
	if before != n {
		return api.ErrInvalid
	}
	if slices.ContainsFunc(r.Places, func(p Fixed) bool { return p.At < 1 || p.At > maxAt }) {
		return api.ErrRange
	}
	return api.OK
}

// part is what lies between two places: the stones from one to another one, which does not belong to it.
type part struct {
	index    int
	from, to int
	room     int
	isLast   bool
}

// joints returns the number of the joints that belong to a part.
func (p part) joints() int {
	if p.isLast {
		return p.to - p.from - 1
	}
	return p.to - p.from
}

// visit visits the parts of a run, until one of them is refused.
func visit(r Run, accepts func(p part) bool) bool {
	var before Fixed
	for i, place := range r.Places {
		p := part{index: i, from: before.Index, to: place.Index, room: place.At - before.At, isLast: i == len(r.Places)-1}
		if !accepts(p) {
			return false
		}
		before = place
	}
	return true
}

// sums has the sums of the least and of the greatest lengths of the stones before each index.
type sums struct {
	least, most []int
	joint       api.Interval
}

func addUp(r Run) sums {
	s := sums{least: []int{0}, most: []int{0}, joint: r.Joint}
	for i, l := range r.Lengths {
		s.least = append(s.least, s.least[i]+l.Lo)
		s.most = append(s.most, s.most[i]+l.Hi)
	}
	return s
}

// stretch returns between which lengths stones and their joints can be.
func (s sums) stretch(from, to int) api.Interval {
	joints := part{from: from, to: to, isLast: to == len(s.least)-1}.joints()
	return api.Interval{
		Lo: s.least[to] - s.least[from] + joints*s.joint.Lo,
		Hi: s.most[to] - s.most[from] + joints*s.joint.Hi,
	}
}

// crammed returns how long the longest stones of a part are with the narrowest joints.
func (s sums) crammed(p part) int { return s.most[p.to] - s.most[p.from] + p.joints()*s.joint.Lo }

// spread returns how long the shortest stones of a part are with the widest joints.
func (s sums) spread(p part) int { return s.least[p.to] - s.least[p.from] + p.joints()*s.joint.Hi }

// failing returns the first part of a run that fails, and whether there is one.
func failing(r Run) (part, bool) {
	s := addUp(r)
	var first part
	closes := visit(r, func(p part) bool {
		first = p
		return s.crammed(p) <= p.room && s.spread(p) >= p.room
	})
	return first, !closes
}
