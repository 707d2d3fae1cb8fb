package jobshop

import (
	"cmp"
	"slices"

	"gangsaw/api"
)

// choice is the next step of a job on a machine.
type choice struct {
	job, machine int
	from         int
}

// plan is a schedule that grows, step by step.
type plan struct {
	machines []api.Machine
	jobs     []api.Job
	doers    map[string][]int // the machines that do each kind of work
	done     [][]api.Slot     // by jobs
	taken    [][]api.Slot     // by machines
}

func newPlan(machines []api.Machine, jobs []api.Job) *plan {
	p := &plan{machines: machines, jobs: jobs, doers: map[string][]int{}, done: make([][]api.Slot, len(jobs)), taken: make([][]api.Slot, len(machines))}
	for i, m := range machines {
		p.doers[m.Work] = append(p.doers[m.Work], i)
	}
	return p
}

// step returns the next step of a job, and whether there is one.
func (p *plan) step(job int) (api.Step, bool) {
	steps, next := p.jobs[job].Steps, len(p.done[job])
	if next == len(steps) {
		return api.Step{}, false
	}
	return steps[next], true
}

// choice returns how the next step of a job goes on a machine behind all that was put on it.
func (p *plan) choice(job, machine int) choice {
	from := p.jobs[job].Release
	if n := len(p.done[job]); n > 0 {
		from = p.done[job][n-1].To + p.jobs[job].Steps[n-1].Drying
	}
	if n := len(p.taken[machine]); n > 0 {
		last := p.taken[machine][n-1]
		free := last.To
		if last.Job != p.jobs[job].Name {
			free += p.machines[machine].Setup
		}
		from = max(from, free)
	}
	return choice{job, machine, from}
}

// put puts the next step of a job on a machine.
func (p *plan) put(c choice) {
	j := p.jobs[c.job]
	number := len(p.done[c.job])
	s := api.Slot{Job: j.Name, Step: number, Machine: p.machines[c.machine].Name, From: c.from, To: c.from + j.Steps[number].Minutes}
	p.done[c.job] = append(p.done[c.job], s)
	p.taken[c.machine] = append(p.taken[c.machine], s)
}

// back takes back what was put last on a machine.
func (p *plan) back(c choice) {
	p.done[c.job] = p.done[c.job][:len(p.done[c.job])-1]
	p.taken[c.machine] = p.taken[c.machine][:len(p.taken[c.machine])-1]
}

// next returns what the rule puts next, and whether there is something left. The candidates come in the order of the jobs, then of the machines.
func (p *plan) next() (choice, bool) {
	var best choice
	found := false
	compare := func(a, b choice) int {
		x, y := p.jobs[a.job], p.jobs[b.job]
		return cmp.Or(cmp.Compare(a.from, b.from), cmp.Compare(y.Priority, x.Priority), cmp.Compare(x.Due, y.Due))
	}
	for job := range p.jobs {
		step, isLeft := p.step(job)
		if !isLeft {
			continue
		}
		for _, machine := range p.doers[step.Work] {
			if c := p.choice(job, machine); !found || compare(c, best) < 0 {
				best, found = c, true
			}
		}
	}
	return best, found
}

// slots returns the slots in the order of the jobs, then of the steps.
func (p *plan) slots() []api.Slot { return slices.Concat(p.done...) }

// Best returns a schedule whose end is the least, for few steps.
func Best(machines []api.Machine, jobs []api.Job) ([]api.Slot, api.Errno) {
	if e := Check(machines, jobs); e != api.OK {
		return nil, e
	}
	steps := 0
	for _, j := range jobs {
		steps += len(j.Steps)
	}
	if steps > MaxFew {
		return nil, api.ErrTooMany
	}
	best, e := Earliest(machines, jobs)
	if e != api.OK {
		return nil, e
	}
	least, e := End(jobs, best)
	if e != api.OK {
		return nil, e
	}
	p := newPlan(machines, jobs)
	p.leaveFew(steps)
	var try func(left, end int)
	try = func(left, end int) {
		if left == 0 {
			best, least = p.slots(), end
			return
		}
		for job := range jobs {
			step, isLeft := p.step(job)
			if !isLeft {
				continue
			}
			for _, machine := range p.doers[step.Work] {
				c := p.choice(job, machine)
				if finish := c.from + p.rest(job); finish < least {
					p.put(c)
					try(left-1, max(end, finish))
					p.back(c)
				}
			}
		}
	}
	try(steps, 0)
	return best, api.OK
}

// rest returns for how long a job goes on at least from the begin of its next step.
func (p *plan) rest(job int) int {
	sum := 0
	for _, s := range p.jobs[job].Steps[len(p.done[job]):] {
		sum += s.Minutes + s.Drying
	}
	return sum
}

// leaveFew leaves, for each kind of work, at most as many machines as there are steps: then each step may have its own one, so that no setup matters.
func (p *plan) leaveFew(steps int) {
	for work, doers := range p.doers {
		p.doers[work] = doers[:min(steps, len(doers))]
	}
}
