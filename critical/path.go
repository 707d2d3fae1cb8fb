package critical

import (
	"slices"

	"gangsaw/api"
	"gangsaw/jobshop"
)

// schedule is a schedule with what is known of its slots.
type schedule struct {
	slots  []api.Slot
	steps  map[string][]api.Step // of the jobs
	begins map[string]int        // the releases of the jobs
	setups map[string]int        // of the machines
}

// Path returns the indices of slots, from one with which a schedule ends back to one that begins at a release, of which each one begins as soon as the next one allows.
func Path(machines []api.Machine, jobs []api.Job, slots []api.Slot) ([]int, api.Errno) {
	if e := jobshop.Verify(machines, jobs, slots); e != api.OK {
		return nil, e
	}
	if len(slots) == 0 {
		return nil, api.ErrNone
	}
	s := schedule{slots: slots, steps: map[string][]api.Step{}, begins: map[string]int{}, setups: map[string]int{}}
	for _, j := range jobs {
		s.steps[j.Name], s.begins[j.Name] = j.Steps, j.Release
	}
	for _, m := range machines {
		s.setups[m.Name] = m.Setup
	}
	at := s.last()
	path := []int{at}
	for !s.isBegin(at) {
		at = s.holder(at)
		if at < 0 {
			return nil, api.ErrState
		}
		path = append(path, at)
	}
	return path, api.OK
}

func (s schedule) drying(x api.Slot) int { return s.steps[x.Job][x.Step].Drying }

// last returns the first slot with which the schedule ends.
func (s schedule) last() int {
	best := 0
	for i, x := range s.slots {
		if x.To+s.drying(x) > s.slots[best].To+s.drying(s.slots[best]) {
			best = i
		}
	}
	return best
}

// isBegin reports whether a slot is that of a first step, and begins at the release.
func (s schedule) isBegin(at int) bool {
	x := s.slots[at]
	return x.Step == 0 && x.From == s.begins[x.Job]
}

// holder returns the slot by which a slot is held, -1 if there is none. (What is between both is subtracted, since a sum may be too great.)
func (s schedule) holder(at int) int {
	x := s.slots[at]
	isBefore := func(y api.Slot) bool {
		return y.Job == x.Job && y.Step == x.Step-1 && y.To == x.From-s.drying(y)
	}
	if i := slices.IndexFunc(s.slots, isBefore); i >= 0 {
		return i
	}
	return slices.IndexFunc(s.slots, func(y api.Slot) bool {
		if y.Machine != x.Machine {
			return false
		}
		if y.Job == x.Job {
			return y.To == x.From
		}
		return y.To == x.From-s.setups[x.Machine]
	})
}
