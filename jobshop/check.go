package jobshop

import (
	"slices"

	"gangsaw/api"
	"gangsaw/lexer"
)

// Check returns OK for machines and jobs, or the first error.
func Check(machines []api.Machine, jobs []api.Job) api.Errno {
	isIn := func(n, least, most int) bool { return n >= least && n <= most }
	nameOfMachine := func(m api.Machine) string { return m.Name }
	nameOfJob := func(j api.Job) string { return j.Name }
	anyStep := func(j api.Job, is func(s api.Step) bool) bool { return slices.ContainsFunc(j.Steps, is) }
	isMisnamedStep := func(s api.Step) bool { return !lexer.Name(s.Work) }
	isBadStep := func(s api.Step) bool { return !isIn(s.Minutes, 1, MaxMinute) || !isIn(s.Drying, 0, MaxMinute) }
	isBadJob := func(j api.Job) bool {
		return anyStep(j, isBadStep) || !isIn(j.Release, 0, MaxMinute) || !isIn(j.Due, 0, MaxMinute) || !isIn(j.Priority, 0, MaxPriority)
	}
	doers := index(machines, func(m api.Machine) string { return m.Work })
	isUnknown := func(s api.Step) bool {
		_, isKnown := doers[s.Work]
		return !isKnown
	}
	switch {
	case len(machines) > api.MaxMachines || len(jobs) > api.MaxJobs || slices.ContainsFunc(jobs, func(j api.Job) bool { return len(j.Steps) > api.MaxSteps }):
		return api.ErrTooMany
	case slices.ContainsFunc(machines, func(m api.Machine) bool { return !lexer.Name(m.Name) || !lexer.Name(m.Work) }):
		return api.ErrName
	case slices.ContainsFunc(jobs, func(j api.Job) bool { return !lexer.Name(j.Name) || anyStep(j, isMisnamedStep) }):
		return api.ErrName
	case slices.ContainsFunc(machines, func(m api.Machine) bool { return !isIn(m.Setup, 0, MaxSetup) }) || slices.ContainsFunc(jobs, isBadJob):
		return api.ErrRange
	case slices.ContainsFunc(jobs, func(j api.Job) bool { return len(j.Steps) == 0 }):
		return api.ErrNone
	case len(index(machines, nameOfMachine)) < len(machines) || len(index(jobs, nameOfJob)) < len(jobs):
		return api.ErrDuplicate
	case slices.ContainsFunc(jobs, func(j api.Job) bool { return anyStep(j, isUnknown) }):
		return api.ErrUnknown
	}
	return api.OK
}

// Verify returns OK for a schedule of all steps of jobs, or the first error.
func Verify(machines []api.Machine, jobs []api.Job, slots []api.Slot) api.Errno {
	if e := Check(machines, jobs); e != api.OK {
		return e
	}
	machineOf := index(machines, func(m api.Machine) string { return m.Name })
	for _, s := range slots {
		if _, isKnown := machineOf[s.Machine]; !isKnown {
			return api.ErrUnknown
		}
	}
	if _, e := endsOf(jobs, slots); e != api.OK {
		return e
	}
	table, e := tableOf(jobs, slots)
	if e != api.OK {
		return e
	}
	each := func(isBad func(s api.Slot, job int) bool) bool {
		for j := range table {
			if slices.ContainsFunc(table[j], func(s api.Slot) bool { return isBad(s, j) }) {
				return true
			}
		}
		return false
	}
	step := func(s api.Slot, job int) api.Step { return jobs[job].Steps[s.Step] }
	switch {
	case each(func(s api.Slot, job int) bool { return machines[machineOf[s.Machine]].Work != step(s, job).Work }):
		return api.ErrConflict
	case each(func(s api.Slot, job int) bool {
		return s.From < 0 || s.To < s.From || s.To-s.From != step(s, job).Minutes
	}):
		return api.ErrRange
	case each(func(s api.Slot, job int) bool { return !isReady(jobs[job], table[job], s) }):
		return api.ErrState
	}
	return checkApart(machines, machineOf, slots)
}

// tableOf returns the slots of a schedule by jobs and steps.
func tableOf(jobs []api.Job, slots []api.Slot) ([][]api.Slot, api.Errno) {
	jobOf := index(jobs, func(j api.Job) string { return j.Name })
	table := make([][]api.Slot, len(jobs))
	isThere := map[[2]int]bool{}
	missing := 0
	for i, j := range jobs {
		table[i] = make([]api.Slot, len(j.Steps))
		missing += len(j.Steps)
	}
	for _, s := range slots {
		place := [2]int{jobOf[s.Job], s.Step}
		if isThere[place] {
			return nil, api.ErrDuplicate
		}
		isThere[place] = true
		table[place[0]][place[1]] = s
		missing--
	}
	if missing > 0 {
		return nil, api.ErrNone
	}
	return table, api.OK
}

// isReady reports whether a slot does not begin before its step is ready. (The drying is subtracted, since a sum may be too great.)
func isReady(j api.Job, own []api.Slot, s api.Slot) bool {
	if s.Step == 0 {
		return s.From >= j.Release
	}
	return s.From-j.Steps[s.Step-1].Drying >= own[s.Step-1].To
}

// checkApart checks that the slots of each machine are far enough apart.
func checkApart(machines []api.Machine, machineOf map[string]int, slots []api.Slot) api.Errno {
	behind := func(a, b api.Slot) bool {
		from := a.From
		if a.Job != b.Job {
			from -= machines[machineOf[a.Machine]].Setup
		}
		return from >= b.To
	}
	for i, a := range slots {
		isTooNear := func(b api.Slot) bool { return a.Machine == b.Machine && !behind(a, b) && !behind(b, a) }
		if slices.ContainsFunc(slots[:i], isTooNear) {
			return api.ErrOverlap
		}
	}
	return api.OK
}
