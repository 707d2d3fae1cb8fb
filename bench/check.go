package bench

import (
	"slices"

	"gangsaw/api"
	"gangsaw/box"
	"gangsaw/lexer"
	"gangsaw/survey"
)

const (
	maxBatter  = 10000
	maxDensity = 10000
)

// rule is a rule for sites whose survey is valid and that keep the rules before it.
type rule struct {
	code   api.Errno
	broken func(s api.Site) bool
}

// Check returns OK for a valid site, or the first error.
func Check(s api.Site) api.Errno {
	if e := survey.Check(s.Survey); e != api.OK {
		return e
	}
	rules := []rule{
		{api.ErrTooMany, isCrowded},
		{api.ErrRange, hasWrongNumber},
		{api.ErrName, hasWrongName},
		{api.ErrInvalid, hasEmptyPart},
		{api.ErrOutside, leavesPit},
		{api.ErrOverlap, benchesOverlap},
		{api.ErrDuplicate, repeatsName},
		{api.ErrConflict, hasBlockOffBench},
		{api.ErrOverlap, blocksOverlap},
	}
	for _, r := range rules {
		if r.broken(s) {
			return r.code
		}
	}
	return api.OK
}

func isCrowded(s api.Site) bool {
	return len(s.Benches) > api.MaxBenches || len(s.Blocks) > api.MaxBlocks
}

func hasWrongNumber(s api.Site) bool {
	outside := func(n, lo, hi int) bool { return n < lo || n > hi }
	return outside(s.Safety.Batter, 0, maxBatter) || outside(s.Safety.Width, 0, api.MaxCoord) || outside(s.Density, 1, maxDensity)
}

func hasWrongName(s api.Site) bool {
	return slices.ContainsFunc(s.Benches, func(x api.Bench) bool { return !lexer.Name(x.Name) }) ||
		slices.ContainsFunc(s.Blocks, func(b api.Block) bool { return !lexer.Name(b.Name) })
}

func hasEmptyPart(s api.Site) bool {
	return slices.ContainsFunc(s.Benches, func(x api.Bench) bool { return x.Lo >= x.Hi }) ||
		// A box without points does not even overlap itself.
		slices.ContainsFunc(s.Blocks, func(b api.Block) bool { return !box.Overlap(b.Box, b.Box) })
}

func leavesPit(s api.Site) bool {
	pit := s.Survey.Pit
	return slices.ContainsFunc(s.Benches, func(x api.Bench) bool { return x.Lo < pit.Min.Z || x.Hi > pit.Max.Z }) ||
		slices.ContainsFunc(s.Blocks, func(b api.Block) bool { return !box.Inside(b.Box, pit) })
}

func benchesOverlap(s api.Site) bool {
	for i := 1; i < len(s.Benches); i++ {
		if s.Benches[i].Lo < s.Benches[i-1].Hi {
			return true
		}
	}
	return false
}

func repeatsName(s api.Site) bool {
	seen := map[string]bool{}
	for _, x := range s.Benches {
		if seen[x.Name] {
			return true
		}
		seen[x.Name] = true
	}
	for i := 1; i < len(s.Blocks); i++ {
		if s.Blocks[i-1].Name >= s.Blocks[i].Name {
			return true
		}
	}
	return false
}

func hasBlockOffBench(s api.Site) bool {
	return slices.ContainsFunc(s.Blocks, func(b api.Block) bool {
		level := levelOf(s, b)
		return level < 0 || b.Box.Max.Z > s.Benches[level].Hi
	})
}

func blocksOverlap(s api.Site) bool {
	var boxes []api.Box
	for _, b := range s.Blocks {
		boxes = append(boxes, b.Box)
	}
	_, _, e := box.Clash(boxes)
	return e == api.OK
}
