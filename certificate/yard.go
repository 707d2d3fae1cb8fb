package certificate

import (
	"slices"

	"gangsaw/api"
	"gangsaw/boxpack"
	"gangsaw/jobshop"
)

// The reasons why no schedule ends sooner.
const (
	byJob  = 1
	byWork = 2
)

func problemOf(c Claim) boxpack.Problem {
	return boxpack.Problem{Size: c.Size, Kerf: c.Kerf, Items: c.Items}
}

func checkBetter(c Claim) api.Errno { return boxpack.Check(problemOf(c)) }

func makeBetter(c Claim) ([]string, []int64) {
	table, _ := boxpack.Table(problemOf(c))
	return nil, table
}

// provesBetter reports whether a table bounds the values, with a last number that is small enough.
func provesBetter(c Claim, names []string, numbers []int64) bool {
	bound, e := boxpack.Bound(problemOf(c), numbers)
	return len(names) == 0 && e == api.OK && bound <= c.Value
}

func checkClose(c Claim) api.Errno {
	isBad := func(least, most int) func(i api.Interval) bool {
		return func(i api.Interval) bool { return i.Lo < least || i.Lo > i.Hi || i.Hi > most }
	}
	switch {
	case len(c.Lengths) > api.MaxStones:
		return api.ErrTooMany
	case len(c.Lengths) == 0 || slices.ContainsFunc(c.Lengths, isBad(1, api.MaxCoord)) || isBad(0, MaxJoint)(c.Joint) || c.Room < 0 || c.Room > MaxRoom:
		return api.ErrRange
	}
	return api.OK
}

// makeClose returns the greatest lengths, if they are too long even with the narrowest joints, otherwise the least ones.
func makeClose(c Claim) ([]string, []int64) {
	var least, most []int64
	for _, l := range c.Lengths {
		least, most = append(least, int64(l.Lo)), append(most, int64(l.Hi))
	}
	if provesClose(c, nil, most) {
		return nil, most
	}
	return nil, least
}

// provesClose reports whether lengths are too long even with the narrowest joints, or too short even with the widest ones.
func provesClose(c Claim, names []string, numbers []int64) bool {
	if len(names) > 0 || len(numbers) != len(c.Lengths) {
		return false
	}
	var sum int64
	for i, n := range numbers {
		if n < int64(c.Lengths[i].Lo) || n > int64(c.Lengths[i].Hi) {
			return false
		}
		sum += n
	}
	joints := int64(len(numbers) - 1)
	return sum+joints*int64(c.Joint.Lo) > int64(c.Room) || sum+joints*int64(c.Joint.Hi) < int64(c.Room)
}

func checkSooner(c Claim) api.Errno { return jobshop.Check(c.Machines, c.Jobs) }

// makeSooner returns the first job, or the first kind of work, that proves the claim.
func makeSooner(c Claim) ([]string, []int64) {
	for _, j := range c.Jobs {
		if jobBound(j) >= c.Value {
			return []string{j.Name}, []int64{byJob}
		}
	}
	for _, j := range c.Jobs {
		for _, s := range j.Steps {
			if bound, _ := workBound(c, s.Work); bound >= c.Value {
				return []string{s.Work}, []int64{byWork}
			}
		}
	}
	return nil, nil
}

func provesSooner(c Claim, names []string, numbers []int64) bool {
	if len(names) != 1 || len(numbers) != 1 {
		return false
	}
	switch numbers[0] {
	case byJob:
		return slices.ContainsFunc(c.Jobs, func(j api.Job) bool { return j.Name == names[0] && jobBound(j) >= c.Value })
	case byWork:
		bound, isThere := workBound(c, names[0])
		return isThere && bound >= c.Value
	}
	return false
}

// jobBound returns when a job ends at the earliest.
func jobBound(j api.Job) int64 {
	end := int64(j.Release)
	for _, s := range j.Steps {
		end += int64(s.Minutes) + int64(s.Drying)
	}
	return end
}

// workBound returns when a kind of work is done at the earliest, if some step has it.
func workBound(c Claim, work string) (int64, bool) {
	var sum, release, machines int64
	isThere := false
	for _, j := range c.Jobs {
		for _, s := range j.Steps {
			if s.Work != work {
				continue
			}
			if !isThere || int64(j.Release) < release {
				release = int64(j.Release)
			}
			isThere = true
			sum += int64(s.Minutes)
		}
	}
	for _, m := range c.Machines {
		if m.Work == work {
			machines++
		}
	}
	if !isThere {
		return 0, false
	}
	return release + (sum+machines-1)/machines, true
}
