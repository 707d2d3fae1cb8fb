package boring

import (
	"slices"

	"gangsaw/api"
	"gangsaw/box"
	"gangsaw/lexer"
)

// rule is a rule for borings, and the error of those that break it.
type rule struct {
	code   api.Errno
	breaks func(api.Boring) bool
}

// Check returns OK for a boring in a pit, or the first error.
func Check(b api.Boring, pit api.Box) api.Errno {
	if e := box.Check(pit); e != api.OK {
		return e
	}
	return checkEach(within(pit), b)
}

// CheckAll returns OK for borings in a pit, or the first error.
func CheckAll(list []api.Boring, pit api.Box) api.Errno {
	if len(list) > api.MaxBorings {
		return api.ErrTooMany
	}
	if e := box.Check(pit); e != api.OK {
		return e
	}
	if e := checkEach(within(pit), list...); e != api.OK {
		return e
	}
	seen := map[string]bool{}
	for _, b := range list {
		if seen[b.Name] {
			return api.ErrDuplicate
		}
		seen[b.Name] = true
	}
	return api.OK
}

func checkFormed(b api.Boring) api.Errno { return checkEach(formed(), b) }

// checkEach checks each rule for all borings before the next one; the rule for places comes before the one for the order of logs.
func checkEach(place rule, list ...api.Boring) api.Errno {
	for _, r := range [5]rule{
		{api.ErrName, func(b api.Boring) bool { return !lexer.Name(b.Name) }},
		{api.ErrTooMany, func(b api.Boring) bool { return len(b.Logs) > api.MaxLogs }},
		{api.ErrInvalid, func(b api.Boring) bool { return slices.ContainsFunc(b.Logs, isNoLog) }},
		place,
		{api.ErrOverlap, overlaps},
	} {
		if slices.ContainsFunc(list, r.breaks) {
			return r.code
		}
	}
	return api.OK
}

// within is the rule for borings that lie in a pit.
func within(pit api.Box) rule {
	return rule{api.ErrOutside, func(b api.Boring) bool {
		outside := func(l api.Log) bool { return l.Lo < pit.Min.Z || l.Hi > pit.Max.Z }
		at := api.Vec{X: b.At.X, Y: b.At.Y, Z: pit.Min.Z}
		return !box.Has(pit, at) || slices.ContainsFunc(b.Logs, outside)
	}}
}

// formed is the rule for borings that lie in some pit.
func formed() rule {
	most := api.Vec{X: api.MaxCoord, Y: api.MaxCoord, Z: api.MaxCoord}
	r := within(api.Box{Min: api.Vec{X: -api.MaxCoord, Y: -api.MaxCoord, Z: -api.MaxCoord}, Max: most})
	r.code = api.ErrRange
	return r
}

func isState(state int) bool { return state == api.Sound || state == api.Flawed }

func isEmpty(l api.Log) bool { return l.Lo >= l.Hi }

func isNoLog(l api.Log) bool { return isEmpty(l) || !isState(l.State) }

// overlaps reports whether a log begins below the end of the one before.
func overlaps(b api.Boring) bool {
	for i := 1; i < len(b.Logs); i++ {
		if b.Logs[i].Lo < b.Logs[i-1].Hi {
			return true
		}
	}
	return false
}

func outOfRange(c int) bool { return c < -api.MaxCoord || c > api.MaxCoord }
