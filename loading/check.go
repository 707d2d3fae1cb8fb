package loading

import (
	"slices"

	"gangsaw/api"
	"gangsaw/lexer"
)

// Check returns OK for a truck and stones in the order in which they are set, or the first error.
func Check(t api.Truck, list []Cargo) api.Errno {
	if e := checkEach(t, list); e != api.OK {
		return e
	}
	for i, c := range list {
		if slices.ContainsFunc(list[:i], func(d Cargo) bool { return d.Stone == c.Stone }) {
			return api.ErrDuplicate
		}
	}
	return api.OK
}

// checkEach checks a truck and each stone alone.
func checkEach(t api.Truck, list []Cargo) api.Errno {
	isIn := func(n, least, most int) bool { return n >= least && n <= most }
	isAxle := func(at int, empty, limit int64) bool {
		return isIn(at, -MaxLength, 2*MaxLength) && empty >= 0 && empty <= limit && limit <= MaxMass
	}
	isOutOfRange := func(c Cargo) bool {
		return !isIn(c.Length, 1, MaxLength) || c.Mass < 1 || c.Mass > MaxMass
	}
	switch {
	case len(list) > MaxCargo:
		return api.ErrTooMany
	case !lexer.Name(t.Name) || slices.ContainsFunc(list, func(c Cargo) bool { return !lexer.Name(c.Stone) }):
		return api.ErrName
	case !isIn(t.Length, 1, MaxLength) || !isAxle(t.Front, t.Empty[0], t.Limits[0]) || !isAxle(t.Rear, t.Empty[1], t.Limits[1]) || t.Front >= t.Rear:
		return api.ErrRange
	case slices.ContainsFunc(list, isOutOfRange):
		return api.ErrRange
	}
	return api.OK
}

// Verify returns OK if trips bring all stones in order and every axle keeps its limit at every stage of unloading, or the first error.
func Verify(t api.Truck, list []Cargo, trips []Trip) api.Errno {
	if e := Check(t, list); e != api.OK {
		return e
	}
	isAny := func(is func(trip Trip) bool) bool { return slices.ContainsFunc(trips, is) }
	var brought []Cargo
	for _, trip := range trips {
		for _, l := range trip.Loads {
			brought = append(brought, Cargo{Stone: l.Stone, Length: l.Length, Mass: l.Mass})
		}
	}
	isOff := func(trip Trip) bool {
		return slices.ContainsFunc(trip.Loads, func(l api.Load) bool { return !isOnBed(t, l) })
	}
	switch {
	case isAny(func(trip Trip) bool { return trip.Truck != t.Name }):
		return api.ErrUnknown
	case isAny(func(trip Trip) bool { return len(trip.Loads) == 0 }):
		return api.ErrInvalid
	case !slices.Equal(brought, list):
		return api.ErrConflict
	case isAny(isOff):
		return api.ErrOutside
	case isAny(func(trip Trip) bool { return isBlocked(trip.Loads) }):
		return api.ErrOverlap
	case isAny(func(trip Trip) bool { return !isBorne(t, trip.Loads) }):
		return api.ErrWeight
	}
	return api.OK
}

// isBlocked reports whether a load begins before the end of one that is unloaded later.
func isBlocked(loads []api.Load) bool {
	for i, l := range loads {
		if slices.ContainsFunc(loads[i+1:], func(later api.Load) bool { return l.At < later.At+later.Length }) {
			return true
		}
	}
	return false
}
