// Package hold serves layers 18, 20 and 21: it finds out once what holds a block in the rock, so that the block can be examined while more and more blocks are taken.
package hold

import (
	"slices"

	"gangsaw/api"
	"gangsaw/bench"
	"gangsaw/box"
	"gangsaw/survey"
)

// The kinds of reasons why a block cannot be freed, in the order in which they are examined.
const (
	Possible = 0
	Gone     = 1
	Covered  = 2
	NoBed    = 3
	Held     = 4
	Unsafe   = 5
)

const sidesToFree = 2

// Hold is what holds a block.
type Hold struct {
	name   string
	bedded bool
	above  []string // the blocks that lie above it
	near   []string // the blocks that are not clear of it
	sides  [4]side
}

// Of returns what holds the block with an index of a valid site.
func Of(site api.Site, i int) Hold {
	b := site.Blocks[i]
	h := Hold{name: b.Name, bedded: survey.Bedded(site.Survey, b.Box.Min.Z)}
	// Blocks do not overlap, so that every block in the shaft begins at the top of the block or higher.
	shaft := b.Box
	shaft.Min.Z, shaft.Max.Z = b.Box.Max.Z, site.Survey.Pit.Max.Z
	for k, other := range site.Blocks {
		if box.Overlap(other.Box, shaft) {
			h.above = append(h.above, other.Name)
		}
		if k != i && !Clear(site.Safety, b.Box, other.Box) {
			h.near = append(h.near, other.Name)
		}
	}
	for direction := range h.sides {
		h.sides[direction] = sideOf(site, b.Box, direction)
	}
	return h
}

// All returns what holds each block of a valid site.
func All(site api.Site) []Hold {
	holds := make([]Hold, len(site.Blocks))
	for i := range holds {
		holds[i] = Of(site, i)
	}
	return holds
}

// Clear reports whether a block that stands is clear of a taken one, for boxes and a rule with numbers in their ranges.
func Clear(s api.Safety, taken, stands api.Box) bool {
	height := stands.Min.Z - taken.Min.Z
	return height <= 0 || 1000*bench.Gap(taken, stands) >= s.Batter*height+1000*s.Width
}

// Name returns the name of the block.
func (h Hold) Name() string { return h.name }

// Faces reports for each side of the block whether it is free when blocks are taken.
func (h Hold) Faces(taken map[string]bool) [4]bool {
	var free [4]bool
	for direction, s := range h.sides {
		free[direction] = s.isFree(taken)
	}
	return free
}

// Why returns why the block cannot be freed when blocks are taken, and the first block that is to blame, or Possible.
func (h Hold) Why(taken map[string]bool) (int, string) {
	stands := func(name string) bool { return !taken[name] }
	if taken[h.name] {
		return Gone, ""
	}
	if i := slices.IndexFunc(h.above, stands); i >= 0 {
		return Covered, h.above[i]
	}
	if !h.bedded {
		return NoBed, ""
	}
	free := 0
	for _, s := range h.sides {
		if s.isFree(taken) {
			free++
		}
	}
	if free < sidesToFree {
		return Held, ""
	}
	if i := slices.IndexFunc(h.near, stands); i >= 0 {
		return Unsafe, h.near[i]
	}
	return Possible, ""
}
