package hold

import (
	"gangsaw/api"
	"gangsaw/box"
	"gangsaw/span"
	"gangsaw/survey"
)

// side is a side of a block. The cells outside it that lie in no joint are fixed: until they are taken, the block is held there.
type side struct {
	open    bool
	fixed   int64
	patches []patch
}

// patch is a block that has some of the fixed cells.
type patch struct {
	block string
	cells int64
}

// Blocks do not overlap, so that the numbers of their cells add up.
func (s side) isFree(taken map[string]bool) bool {
	left := s.fixed
	for _, p := range s.patches {
		if taken[p.block] {
			left -= p.cells
		}
	}
	return s.open || left == 0
}

func sideOf(site api.Site, b api.Box, direction int) side {
	// Flaws do not matter here, and to check them again for each side would take long.
	rock := site.Survey
	rock.Flaws = nil
	var s side
	s.open, _ = survey.Open(rock, b, direction)
	jointed, _ := survey.Jointed(rock, b, direction)
	whole := []api.Interval{{Lo: b.Min.Z, Hi: b.Max.Z - 1}}
	unjointed, _ := span.Minus(whole, jointed)
	// cells returns how many fixed cells a box that has all cells outside the side in its range along the axis has.
	cells := func(other api.Box) int64 {
		heights := []api.Interval{{Lo: other.Min.Z, Hi: other.Max.Z - 1}}
		common, _ := span.Common(heights, unjointed)
		height, _ := span.Count(common)
		return int64(height) * int64(commonWidth(b, other, direction))
	}
	s.fixed = cells(b)
	for _, other := range site.Blocks {
		if touches, e := box.Touch(b, other.Box); e == api.OK && touches == direction {
			s.patches = append(s.patches, patch{other.Name, cells(other.Box)})
		}
	}
	return s
}

// commonWidth returns the length of the common range of two boxes along a side of the first one.
func commonWidth(a, b api.Box, direction int) int {
	if direction == api.PlusX || direction == api.MinusX {
		return min(a.Max.Y, b.Max.Y) - max(a.Min.Y, b.Min.Y)
	}
	return min(a.Max.X, b.Max.X) - max(a.Min.X, b.Min.X)
}
