package box

import (
	"cmp"
	"iter"
	"slices"

	"gangsaw/api"
)

// Gap returns the least point of a box (by z, then y, then x) that lies in none of a list.
func Gap(b api.Box, list []api.Box) (api.Vec, api.Errno) {
	if e := checkLists(list, b); e != api.OK {
		return api.Vec{}, e
	}
	cuts := cutsOf(b, list)
	xs := cuts[api.AxisX]
	for strip, covers := range strips(cuts, list) {
		for _, x := range xs[:len(xs)-1] {
			if !covers(x) {
				return api.Vec{X: x, Y: strip.Min.Y, Z: strip.Min.Z}, api.OK
			}
		}
	}
	return api.Vec{}, api.ErrNone
}

// Total returns the volume of the union of boxes.
func Total(list []api.Box) (int64, api.Errno) {
	if e := checkLists(list); e != api.OK {
		return 0, e
	}
	if len(list) == 0 {
		return 0, api.OK
	}
	around := list[0]
	for _, b := range list {
		around = hull(around, b)
	}
	cuts := cutsOf(around, list)
	xs := cuts[api.AxisX]
	var total int64
	for strip, covers := range strips(cuts, list) {
		length := 0
		for i, x := range xs[:len(xs)-1] {
			if covers(x) {
				length += xs[i+1] - x
			}
		}
		strip.Max.X = strip.Min.X + length
		total += volume(strip)
	}
	return total, api.OK
}

// cutsOf returns the sorted coordinates, for each axis, at which b or a box of the list within b begins or ends.
func cutsOf(b api.Box, list []api.Box) [3][]int {
	var cuts [3][]int
	add := func(part api.Box) {
		lo, hi := coordinates(part.Min), coordinates(part.Max)
		for axis := range cuts {
			cuts[axis] = append(cuts[axis], lo[axis], hi[axis])
		}
	}
	add(b)
	for _, x := range list {
		if Overlap(b, x) {
			add(common(b, x))
		}
	}
	for axis := range cuts {
		slices.Sort(cuts[axis])
		cuts[axis] = slices.Compact(cuts[axis])
	}
	return cuts
}

// steps yields each cut but the last one, with the next one.
func steps(cuts []int) iter.Seq2[int, int] {
	return func(yield func(int, int) bool) {
		for i := 1; i < len(cuts); i++ {
			if !yield(cuts[i-1], cuts[i]) {
				return
			}
		}
	}
}

// strips yields the strips along x between the cuts, by z, then by y, each with a function that reports whether a box of the list covers the part of the strip from a cut on. From call to call this cut must not decrease.
func strips(cuts [3][]int, list []api.Box) iter.Seq2[api.Box, func(x int) bool] {
	sorted := slices.Clone(list)
	slices.SortFunc(sorted, func(a, b api.Box) int { return cmp.Compare(a.Min.X, b.Min.X) })
	xs := cuts[api.AxisX]
	strip := api.Box{Min: api.Vec{X: xs[0]}, Max: api.Vec{X: xs[len(xs)-1]}}
	return func(yield func(api.Box, func(x int) bool) bool) {
		var layer, row []api.Box
		for lo, hi := range steps(cuts[api.AxisZ]) {
			strip.Min.Z, strip.Max.Z = lo, hi
			layer = appendPassing(layer[:0], sorted, api.AxisZ, lo)
			for lo, hi := range steps(cuts[api.AxisY]) {
				strip.Min.Y, strip.Max.Y = lo, hi
				row = appendPassing(row[:0], layer, api.AxisY, lo)
				if !yield(strip, sweep(row)) {
					return
				}
			}
		}
	}
}

func appendPassing(passing, list []api.Box, axis, at int) []api.Box {
	for _, b := range list {
		if coordinates(b.Min)[axis] <= at && at < coordinates(b.Max)[axis] {
			passing = append(passing, b)
		}
	}
	return passing
}

// sweep reports of growing coordinates whether a box of a row, which is sorted by Min.X, covers them.
func sweep(row []api.Box) func(x int) bool {
	reach := -api.MaxCoord
	return func(x int) bool {
		for len(row) > 0 && row[0].Min.X <= x {
			reach = max(reach, row[0].Max.X)
			row = row[1:]
		}
		return x < reach
	}
}
