package survey

import (
	"slices"

	"gangsaw/api"
	"gangsaw/box"
	"gangsaw/lexer"
	"gangsaw/polygon"
	"gangsaw/span"
)

// Check returns OK for a valid survey, or the first error.
func Check(s api.Survey) api.Errno {
	if len(s.Beds) > api.MaxBeds || len(s.Joints) > api.MaxJoints || len(s.Flaws) > api.MaxFlaws {
		return api.ErrTooMany
	}
	if e := box.Check(s.Pit); e != api.OK {
		return e
	}
	isNoName := func(name string) bool { return !lexer.Name(name) }
	if slices.ContainsFunc(namesOf(s), isNoName) {
		return api.ErrName
	}
	if slices.ContainsFunc(s.Joints, isNoJoint) || slices.ContainsFunc(s.Flaws, isFlat) {
		return api.ErrInvalid
	}
	if e := checkBases(s.Flaws); e != api.OK {
		return e
	}
	switch {
	case outside(s):
		return api.ErrOutside
	case !ordered(s) || repeats(namesOf(s)):
		return api.ErrDuplicate
	}
	return api.OK
}

// namesOf returns the names of all beds, joints and flaws.
func namesOf(s api.Survey) []string {
	var names []string
	for _, b := range s.Beds {
		names = append(names, b.Name)
	}
	for _, j := range s.Joints {
		names = append(names, j.Name)
	}
	for _, f := range s.Flaws {
		names = append(names, f.Name)
	}
	return names
}

func isNoJoint(j api.Joint) bool {
	return j.Axis != api.AxisX && j.Axis != api.AxisY || j.Lo >= j.Hi
}

func isFlat(f api.Flaw) bool { return f.Prism.Lo >= f.Prism.Hi }

// All bases must be polygons before one is refused because it is not convex.
func checkBases(flaws []api.Flaw) api.Errno {
	for _, f := range flaws {
		if e := polygon.Check(f.Prism.Base); e != api.OK {
			return e
		}
	}
	for _, f := range flaws {
		if convex, _ := polygon.Convex(f.Prism.Base); !convex {
			return api.ErrConflict
		}
	}
	return api.OK
}

// outside reports whether something does not lie within the pit.
func outside(s api.Survey) bool {
	pit := extents(s.Pit)
	bedOutside := func(b api.Bed) bool { return !span.Contains(pit[api.AxisZ], b.Z) }
	jointOutside := func(j api.Joint) bool {
		return !span.Contains(pit[j.Axis], j.At) || !span.Within(api.Interval{Lo: j.Lo, Hi: j.Hi}, pit[api.AxisZ])
	}
	cornerOutside := func(c api.Point) bool {
		return !span.Contains(pit[api.AxisX], c.X) || !span.Contains(pit[api.AxisY], c.Y)
	}
	flawOutside := func(f api.Flaw) bool {
		z := api.Interval{Lo: f.Prism.Lo, Hi: f.Prism.Hi}
		return !span.Within(z, pit[api.AxisZ]) || slices.ContainsFunc(f.Prism.Base, cornerOutside)
	}
	return slices.ContainsFunc(s.Beds, bedOutside) || slices.ContainsFunc(s.Joints, jointOutside) || slices.ContainsFunc(s.Flaws, flawOutside)
}

func ordered(s api.Survey) bool {
	return increasing(s.Beds, func(a, b api.Bed) bool { return a.Z < b.Z }) &&
		increasing(s.Joints, func(a, b api.Joint) bool { return a.Name < b.Name }) &&
		increasing(s.Flaws, func(a, b api.Flaw) bool { return a.Name < b.Name })
}

func increasing[T any](list []T, less func(a, b T) bool) bool {
	for i := 1; i < len(list); i++ {
		if !less(list[i-1], list[i]) {
			return false
		}
	}
	return true
}

func repeats(names []string) bool {
	slices.Sort(names)
	return !increasing(names, func(a, b string) bool { return a < b })
}
