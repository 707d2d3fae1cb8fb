package model

import (
	"cmp"
	"iter"
	"maps"
	"slices"

	"gangsaw/api"
	"gangsaw/box"
)

// edge is an end of evidence along x: behind it there is one more or one less that claims the state.
type edge struct {
	at    int
	state int
	step  int
	box   api.Box
}

// parts yields the parts into which the coordinates of the evidence divide a box, with their states, ordered by Z, then by Y, then by X.
func parts(list []api.Evidence, b api.Box) iter.Seq2[api.Box, int] {
	return func(yield func(api.Box, int) bool) {
		edges := edgesWithin(list, b)
		for zLo, zHi := range ranges(edges, b, func(v api.Vec) int { return v.Z }) {
			layer := between(edges, func(x api.Box) bool { return x.Min.Z <= zLo && zLo < x.Max.Z })
			for yLo, yHi := range ranges(layer, b, func(v api.Vec) int { return v.Y }) {
				strip := api.Box{Min: api.Vec{X: b.Min.X, Y: yLo, Z: zLo}, Max: api.Vec{X: b.Max.X, Y: yHi, Z: zHi}}
				if !walkStrip(layer, strip, yield) {
					return
				}
			}
		}
	}
}

// edgesWithin returns the edges of the evidence that is cut to a box, sorted by x.
func edgesWithin(list []api.Evidence, b api.Box) []edge {
	var edges []edge
	for _, x := range list {
		if common, e := box.Intersect(x.Box, b); e == api.OK {
			edges = append(edges, edge{common.Min.X, x.State, 1, common}, edge{common.Max.X, x.State, -1, common})
		}
	}
	slices.SortFunc(edges, func(a, b edge) int { return cmp.Compare(a.at, b.at) })
	return edges
}

func between(edges []edge, condition func(api.Box) bool) []edge {
	var kept []edge
	for _, x := range edges {
		if condition(x.box) {
			kept = append(kept, x)
		}
	}
	return kept
}

// ranges yields the ranges of a coordinate between which no edge's box begins or ends.
func ranges(edges []edge, b api.Box, coordinate func(api.Vec) int) iter.Seq2[int, int] {
	cuts := map[int]bool{coordinate(b.Min): true, coordinate(b.Max): true}
	for _, x := range edges {
		cuts[coordinate(x.box.Min)] = true
		cuts[coordinate(x.box.Max)] = true
	}
	sorted := slices.Sorted(maps.Keys(cuts))
	return func(yield func(int, int) bool) {
		for i := 1; i < len(sorted); i++ {
			if !yield(sorted[i-1], sorted[i]) {
				return
			}
		}
	}
}

// walkStrip yields the parts of a strip along x, and reports whether more are wanted. Edges that do not concern its y are passed over here, as to collect them for each strip would take longer than the walk.
func walkStrip(layer []edge, strip api.Box, yield func(api.Box, int) bool) bool {
	var claims [api.Flawed + 1]int
	state := func() int {
		joined := api.Unseen
		for s, n := range claims {
			if n > 0 {
				joined = join(joined, s)
			}
		}
		return joined
	}
	part := strip
	for _, x := range layer {
		if strip.Min.Y < x.box.Min.Y || strip.Min.Y >= x.box.Max.Y {
			continue
		}
		if x.at > part.Min.X {
			part.Max.X = x.at
			if !yield(part, state()) {
				return false
			}
			part.Min.X = x.at
		}
		claims[x.state] += x.step
	}
	part.Max.X = strip.Max.X
	return part.Min.X == part.Max.X || yield(part, state())
}
