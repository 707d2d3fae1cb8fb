package crane

import (
	"slices"

	"gangsaw/api"
	"gangsaw/box"
	"gangsaw/lexer"
)

const (
	maxRadii   = 16
	maxLimit   = 1000000000000000
	maxDensity = 10000
)

// Check returns OK for valid stands, or the first error.
func Check(stands []api.Stand) api.Errno {
	if len(stands) > api.MaxStands {
		return api.ErrTooMany
	}
	if e := checkParts(stands); e != api.OK {
		return e
	}
	for i := 1; i < len(stands); i++ {
		if stands[i-1].Name >= stands[i].Name {
			return api.ErrDuplicate
		}
	}
	return api.OK
}

// checkParts checks what stands have, but not how they stand together.
func checkParts(stands []api.Stand) api.Errno {
	isMisnamed := func(s api.Stand) bool { return !lexer.Name(s.Name) }
	isUneven := func(s api.Stand) bool {
		return len(s.Radii) < 1 || len(s.Radii) > maxRadii || len(s.Limits) != len(s.Radii)
	}
	switch {
	case slices.ContainsFunc(stands, isMisnamed):
		return api.ErrName
	case slices.ContainsFunc(stands, isUneven):
		return api.ErrInvalid
	case slices.ContainsFunc(stands, hasWrongNumber):
		return api.ErrRange
	}
	return api.OK
}

func hasWrongNumber(s api.Stand) bool {
	if !isPoint(s.At) {
		return true
	}
	radius, limit := 0, int64(maxLimit)
	for i := range s.Radii {
		if s.Radii[i] <= radius || s.Radii[i] > MaxRadius || s.Limits[i] < 0 || s.Limits[i] > limit {
			return true
		}
		radius, limit = s.Radii[i], s.Limits[i]
	}
	return false
}

func isPoint(p api.Point) bool {
	return min(p.X, p.Y) >= -api.MaxCoord && max(p.X, p.Y) <= api.MaxCoord
}

// checkMass checks boxes, and then a density.
func checkMass(density int, boxes ...api.Box) api.Errno {
	for _, b := range boxes {
		if e := box.Check(b); e != api.OK {
			return e
		}
	}
	if density < 1 || density > maxDensity {
		return api.ErrRange
	}
	return api.OK
}

func checkLists(stands []api.Stand, blocks []api.Block, density int) api.Errno {
	if e := Check(stands); e != api.OK {
		return e
	}
	if len(blocks) > api.MaxBlocks {
		return api.ErrTooMany
	}
	var boxes []api.Box
	for _, b := range blocks {
		boxes = append(boxes, b.Box)
	}
	return checkMass(density, boxes...)
}
