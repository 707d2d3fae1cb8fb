package offcut

import (
	"slices"

	"gangsaw/api"
	"gangsaw/kerf"
	"gangsaw/lexer"
)

const (
	maxStock  = 256
	maxWants  = 256
	maxColour = 1000
	maxVolume = 8000000000000000000
)

// checkRemnants checks offcuts, however many there are.
func checkRemnants(list ...api.Remnant) api.Errno {
	isMisnamed := func(r api.Remnant) bool {
		return !lexer.Name(r.Id) || !isEmptyOrName(r.Grade) || !isEmptyOrName(r.From)
	}
	isOutOfRange := func(r api.Remnant) bool { return !isSize(r.Size) || !isColour(r.Colour) }
	switch {
	case slices.ContainsFunc(list, isMisnamed):
		return api.ErrName
	case slices.ContainsFunc(list, isOutOfRange):
		return api.ErrRange
	}
	for i := 1; i < len(list); i++ {
		if list[i-1].Id >= list[i].Id {
			return api.ErrDuplicate
		}
	}
	return api.OK
}

func checkWants(list ...Want) api.Errno {
	isMisnamed := func(w Want) bool { return !lexer.Name(w.Name) || !isEmptyOrName(w.Grade) }
	isOutOfRange := func(w Want) bool { return !isSize(w.Size) || !isColour(w.Colour) }
	switch {
	case slices.ContainsFunc(list, isMisnamed):
		return api.ErrName
	case slices.ContainsFunc(list, isOutOfRange):
		return api.ErrRange
	}
	return api.OK
}

func checkKerf(n int) api.Errno {
	if n < 0 || n > kerf.MaxKerf {
		return api.ErrRange
	}
	return api.OK
}

func checkLeast(n int) api.Errno {
	if !isSide(n) {
		return api.ErrRange
	}
	return api.OK
}

func isSide(n int) bool { return n >= 1 && n <= api.MaxCoord }

func isSize(s api.Vec) bool { return isSide(s.X) && isSide(s.Y) && isSide(s.Z) }

func isColour(n int) bool { return n >= 0 && n <= maxColour }

func isEmptyOrName(s string) bool { return s == "" || lexer.Name(s) }

func isLong(r api.Remnant) bool { return len(r.Id) > api.MaxName }
