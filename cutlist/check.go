package cutlist

import (
	"slices"

	"gangsaw/api"
	"gangsaw/lexer"
	"gangsaw/polygon"
	"gangsaw/wall"
)

// Check returns OK for a valid building, or the first error.
func Check(b api.Building) api.Errno {
	isMisnamed := func(p api.Profile) bool { return !lexer.Name(p.Name) }
	all := 0
	for _, w := range b.Walls {
		all += len(w.Stones)
	}
	switch {
	case !lexer.Name(b.Name) || slices.ContainsFunc(b.Profiles, isMisnamed):
		return api.ErrName
	case len(b.Profiles) > MaxProfiles || len(b.Walls) > api.MaxWalls || all > api.MaxStones:
		return api.ErrTooMany
	}
	if e := checkProfiles(b.Profiles); e != api.OK {
		return e
	}
	increase := func(n int, name func(i int) string) bool {
		for i := 1; i < n; i++ {
			if name(i-1) >= name(i) {
				return false
			}
		}
		return true
	}
	if !increase(len(b.Profiles), func(i int) string { return b.Profiles[i].Name }) || !increase(len(b.Walls), func(i int) string { return b.Walls[i].Name }) {
		return api.ErrDuplicate
	}
	for _, w := range b.Walls {
		if e := wall.Check(w); e != api.OK {
			return e
		}
	}
	return checkStones(b)
}

// checkProfiles checks the outlines of profiles.
func checkProfiles(list []api.Profile) api.Errno {
	for _, p := range list {
		if e := polygon.Check(p.Outline); e != api.OK {
			return e
		}
	}
	isTangled := func(p api.Profile) bool {
		isSimple, _ := polygon.Simple(p.Outline)
		return !isSimple
	}
	if slices.ContainsFunc(list, isTangled) {
		return api.ErrConflict
	}
	return api.OK
}

// checkStones checks what walls do not check of their stones.
func checkStones(b api.Building) api.Errno {
	isIn := func(n, least, most int) bool { return n >= least && n <= most }
	isOff := func(a api.Anchor) bool {
		return !isIn(a.Face, api.PlusX, api.MinusZ) || !isIn(a.At.X, 0, api.MaxCoord) || !isIn(a.At.Y, 0, api.MaxCoord) || !isIn(a.Edge, 0, api.MaxCoord)
	}
	isOutOfRange := func(s api.Stone) bool {
		return !isIn(s.Size.Y, 1, api.MaxCoord) || !isIn(s.Bed, api.BedAny, api.BedEdge) || !isIn(s.Colour, 0, MaxColour) || slices.ContainsFunc(s.Anchors, isOff)
	}
	isKnown := map[string]bool{"": true}
	for _, p := range b.Profiles {
		isKnown[p.Name] = true
	}
	list := stones(b)
	switch {
	case slices.ContainsFunc(list, func(s api.Stone) bool { return len(s.Anchors) > MaxAnchors }):
		return api.ErrTooMany
	case slices.ContainsFunc(list, isOutOfRange):
		return api.ErrRange
	case slices.ContainsFunc(list, func(s api.Stone) bool { return s.At.Y != 0 }):
		return api.ErrInvalid
	case slices.ContainsFunc(list, func(s api.Stone) bool { return s.Grade != "" && !lexer.Name(s.Grade) }):
		return api.ErrName
	case slices.ContainsFunc(list, func(s api.Stone) bool { return !isKnown[s.Profile] }):
		return api.ErrUnknown
	}
	return api.OK
}
