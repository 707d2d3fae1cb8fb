package sound

import (
	"slices"

	"gangsaw/api"
	"gangsaw/box"
	"gangsaw/model"
	"gangsaw/prism"
	"gangsaw/survey"
)

// Pieces returns the sound ones of the parts into which the beds and joints that pass through a box divide it.
func Pieces(s api.Survey, list []api.Evidence, b api.Box) ([]api.Box, api.Errno) {
	if e := check(s, list, b); e != api.OK {
		return nil, e
	}
	if !box.Inside(b, s.Pit) {
		return nil, api.ErrOutside
	}
	// Neither a bed nor a joint passes through a part, so that only its cells and flaws are to be examined.
	hasFlaw := flawFinder(s)
	var pieces []api.Box
	for _, part := range partsOf(s, b) {
		if known, _ := model.All(list, part, api.Sound); known && !hasFlaw(part) {
			pieces = append(pieces, part)
		}
	}
	return pieces, api.OK
}

// flawFinder returns the function that reports whether a flaw overlaps a box. Most flaws are far from most boxes, so that hulls are compared first.
func flawFinder(s api.Survey) func(b api.Box) bool {
	hulls := make([]api.Box, len(s.Flaws))
	for i, f := range s.Flaws {
		hulls[i], _ = prism.Hull(f.Prism)
	}
	return func(b api.Box) bool {
		for i, f := range s.Flaws {
			if !box.Overlap(hulls[i], b) {
				continue
			}
			if overlaps, _ := prism.Overlaps(f.Prism, b); overlaps {
				return true
			}
		}
		return false
	}
}

// partsOf returns the parts of a box inside the pit, by Z, then by Y, then by X.
func partsOf(s api.Survey, b api.Box) []api.Box {
	parts := []api.Box{b}
	at := divisions(s, b)
	for axis := api.AxisZ; axis >= api.AxisX; axis-- {
		var finer []api.Box
		for _, part := range parts {
			finer = append(finer, divide(part, axis, at[axis])...)
		}
		parts = finer
	}
	return parts
}

// divisions returns for each axis where beds and joints divide a box, increasing.
func divisions(s api.Survey, b api.Box) [3][]int {
	through, _ := survey.Through(s, b)
	var at [3][]int
	for _, x := range s.Beds {
		if slices.Contains(through, x.Name) {
			at[api.AxisZ] = append(at[api.AxisZ], x.Z)
		}
	}
	for _, j := range s.Joints {
		if slices.Contains(through, j.Name) {
			at[j.Axis] = append(at[j.Axis], j.At)
		}
	}
	for axis := range at {
		slices.Sort(at[axis])
		at[axis] = slices.Compact(at[axis])
	}
	return at
}

// divide returns the parts of a box between positions on an axis that lie in its inside.
func divide(b api.Box, axis int, at []int) []api.Box {
	var parts []api.Box
	for _, c := range at {
		part := b
		*along(&part.Max, axis) = c
		*along(&b.Min, axis) = c
		parts = append(parts, part)
	}
	return append(parts, b)
}
