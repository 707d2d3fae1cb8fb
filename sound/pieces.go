package sound

import (
	"slices"

	"gangsaw/api"
	"gangsaw/box"
	"gangsaw/model"
	"gangsaw/prism"
	"gangsaw/survey"
)

// Pieces returns the sound ones of the parts into which the beds and joints that pass through a box divide it.
func Pieces(s api.Survey, list []api.Evidence, b api.Box) ([]api.Box, api.Errno) {
	if e := check(s, list, b); e != api.OK {
		return nil, e
	}
	if !box.Inside(b, s.Pit) {
		return nil, api.ErrOutside
	}
	// Neither a bed nor a joint passes through a part, so that only its cells and flaws are to be examined.
	hasFlaw := func(part api.Box) bool {
		return slices.ContainsFunc(s.Flaws, func(f api.Flaw) bool {
			overlaps, _ := prism.Overlaps(f.Prism, part)
			return overlaps
		})
	}
	var pieces []api.Box
	for _, part := range partsOf(s, b) {
		if known, _ := model.All(list, part, api.Sound); known && !hasFlaw(part) {
			pieces = append(pieces, part)
		}
	}
	return pieces, api.OK
}

// partsOf returns the parts of a box inside the pit, by Z, then by Y, then by X.
func partsOf(s api.Survey, b api.Box) []api.Box {
	parts := []api.Box{b}
	at := divisions(s, b)
	for axis := api.AxisZ; axis >= api.AxisX; axis-- {
		var finer []api.Box
		for _, part := range parts {
			finer = append(finer, divide(part, axis, at[axis])...)
		}
		parts = finer
	}
	return parts
}

// divisions returns for each axis where beds and joints divide a box, increasing.
func divisions(s api.Survey, b api.Box) [3][]int {
	through, _ := survey.Through(s, b)
	var at [3][]int
	for _, x := range s.Beds {
		if slices.Contains(through, x.Name) {
			at[api.AxisZ] = append(at[api.AxisZ], x.Z)
		}
	}
	for _, j := range s.Joints {
		if slices.Contains(through, j.Name) {
			at[j.Axis] = append(at[j.Axis], j.At)
		}
	}
	for axis := range at {
		slices.Sort(at[axis])
		at[axis] = slices.Compact(at[axis])
	}
	return at
}

// divide returns the parts of a box between positions on an axis that lie in its inside.
func divide(b api.Box, axis int, at []int) []api.Box {
	var parts []api.Box
	for _, c := range at {
		part := b
		*along(&part.Max, axis) = c
		*along(&b.Min, axis) = c
		parts = append(parts, part)
	}
	return append(parts, b)
}
