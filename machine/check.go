package machine

import (
	"slices"

	"gangsaw/api"
	"gangsaw/lexer"
)

// failing returns an error if one of a list is bad.
func failing[T any](e api.Errno, list []T, isBad func(T) bool) api.Errno {
	if slices.ContainsFunc(list, isBad) {
		return e
	}
	return api.OK
}

func isIn(n, least, most int) bool { return n >= least && n <= most }

func checkMachineNames(list ...api.Machine) api.Errno {
	return failing(api.ErrName, list, func(m api.Machine) bool { return !lexer.Name(m.Name) || !lexer.Name(m.Work) })
}

func checkSetups(list ...api.Machine) api.Errno {
	return failing(api.ErrRange, list, func(m api.Machine) bool { return !isIn(m.Setup, 0, MaxMinutes) })
}

// checkOrder checks that names are strictly increasing.
func checkOrder(count int, name func(i int) string) api.Errno {
	for i := 1; i < count; i++ {
		if name(i-1) >= name(i) {
			return api.ErrDuplicate
		}
	}
	return api.OK
}

func checkStepNames(list []api.Step) api.Errno {
	return failing(api.ErrName, list, func(s api.Step) bool { return !lexer.Name(s.Work) })
}

func checkSteps(list []api.Step) api.Errno {
	return failing(api.ErrRange, list, func(s api.Step) bool { return !isIn(s.Minutes, 1, MaxMinutes) || !isIn(s.Drying, 0, MaxMinutes) })
}

// checkJobs checks each job alone, but for the machines that it needs.
func checkJobs(list ...api.Job) api.Errno {
	isOutOfRange := func(j api.Job) bool {
		return checkSteps(j.Steps) != api.OK || !isIn(j.Release, 0, MaxInstant) || !isIn(j.Due, 0, MaxInstant) || !isIn(j.Priority, 0, MaxLevel)
	}
	for _, e := range [4]api.Errno{
		failing(api.ErrTooMany, list, func(j api.Job) bool { return len(j.Steps) > api.MaxSteps }),
		failing(api.ErrInvalid, list, func(j api.Job) bool { return len(j.Steps) == 0 }),
		failing(api.ErrName, list, func(j api.Job) bool { return !lexer.Name(j.Name) || checkStepNames(j.Steps) != api.OK }),
		failing(api.ErrRange, list, isOutOfRange),
	} {
		if e != api.OK {
			return e
		}
	}
	return api.OK
}

// checkWorks checks that some machine does the work of each step.
func checkWorks(list []api.Machine, jobs ...api.Job) api.Errno {
	if len(Works(list, jobs)) > 0 {
		return api.ErrUnknown
	}
	return api.OK
}
