package machine_test

import (
	"math"
	"math/rand"
	"slices"
	"strconv"
	"strings"
	"testing"

	"gangsaw/api"
	"gangsaw/machine"
)

// machines are those of the chapter's examples.
func machines() []api.Machine {
	return []api.Machine{{Name: "edge", Work: "polish", Setup: 10}, {Name: "frame", Work: "saw", Setup: 20}, {Name: "wire", Work: "saw", Setup: 5}}
}

func step(work string, minutes, drying int) api.Step {
	return api.Step{Work: work, Minutes: minutes, Drying: drying}
}

func job(name string, steps ...api.Step) api.Job { return api.Job{Name: name, Steps: steps} }

// P49.1 to P49.4: the examples.
func TestExamples(t *testing.T) {
	list := machines()
	if got, e := machine.Can(list, "saw"); !slices.Equal(got, []int{1, 2}) || e != api.OK {
		t.Errorf("Can = %v, %d", got, e)
	}
	for _, work := range []string{"carve", "", "Saw"} {
		if got, e := machine.Can(list, work); got != nil || e != api.ErrNone {
			t.Errorf("Can(%q) = %v, %d", work, got, e)
		}
	}
	for fresh, want := range map[bool]int{true: 40, false: 30} {
		if n, e := machine.Minutes(list[0], step("polish", 30, 7), fresh); n != want || e != api.OK {
			t.Errorf("Minutes = %d, %d", n, e)
		}
	}
	j := job("a", step("saw", 60, 5), step("polish", 30, 0))
	if n, e := machine.Chain(list, j); n != 95 || e != api.OK {
		t.Errorf("Chain = %d, %d", n, e)
	}
	if n, e := machine.Chain(list, job("a", step("saw", 60, 5), step("polish", 30, 9))); n != 104 || e != api.OK {
		t.Errorf("Chain = %d, %d", n, e)
	}
	if got, e := machine.Load(list, []api.Job{j}); !slices.Equal(got, []int{30, 0, 0}) || e != api.OK {
		t.Errorf("Load = %v, %d", got, e)
	}
	jobs := []api.Job{job("a", step("saw", 60, 5), step("carve", 1, 0), step("bore", 1, 0), step("carve", 1, 0))}
	if e := machine.CheckJobs(list, jobs); e != api.ErrUnknown {
		t.Errorf("CheckJobs = %d", e)
	}
	if got := machine.Works(list, jobs); !slices.Equal(got, []string{"bore", "carve"}) {
		t.Errorf("Works = %v", got)
	}
	if got := machine.Works(nil, []api.Job{job("", step("B", 0, 0), step("", -1, 0))}); !slices.Equal(got, []string{"", "B"}) {
		t.Errorf("Works = %v", got)
	}
	if got, e := machine.Load(list, []api.Job{job("a", step("polish", 3, 0), step("polish", 4, 0)), job("b", step("polish", 5, 9))}); !slices.Equal(got, []int{12, 0, 0}) || e != api.OK {
		t.Errorf("Load = %v, %d", got, e)
	}
}

// P49.1, P1: machines.
func TestMachineErrors(t *testing.T) {
	with := func(change func(m []api.Machine)) []api.Machine {
		list := machines()
		change(list)
		return list
	}
	for i, c := range []struct {
		list []api.Machine
		e    api.Errno
	}{
		{make([]api.Machine, 33), api.ErrTooMany}, {make([]api.Machine, 32), api.ErrName}, {with(func(m []api.Machine) { m[2].Name, m[0].Setup = "W", -1 }), api.ErrName}, {with(func(m []api.Machine) { m[2].Work, m[0].Setup = "", -1 }), api.ErrName}, {with(func(m []api.Machine) { m[1].Name = strings.Repeat("f", 25) }), api.ErrName},
		{with(func(m []api.Machine) { m[2].Setup, m[0].Name = -1, "frame" }), api.ErrRange}, {with(func(m []api.Machine) { m[2].Setup, m[0].Name = 100001, "frame" }), api.ErrRange}, {with(func(m []api.Machine) { m[2].Setup = math.MinInt }), api.ErrRange},
		{with(func(m []api.Machine) { m[0].Name = "frame" }), api.ErrDuplicate}, {with(func(m []api.Machine) { m[0].Name = "zz" }), api.ErrDuplicate},
	} {
		bad := []api.Job{{}}
		_, e1 := machine.Can(c.list, "?")
		load, e2 := machine.Load(c.list, bad)
		chain, e3 := machine.Chain(c.list, bad[0])
		for k, e := range []api.Errno{machine.Check(c.list), machine.CheckJobs(c.list, bad), e1, e2, e3} {
			if e != c.e {
				t.Errorf("refusal %d, function %d: %d, want %d", i, k, e, c.e)
			}
		}
		if load != nil || chain != 0 {
			t.Errorf("refusal %d has results", i)
		}
	}
	if e := machine.Check([]api.Machine{{Name: "a", Work: "w", Setup: 100000}, {Name: "b", Work: "w"}}); e != api.OK {
		t.Errorf("Check = %d", e)
	}
}

// P49.1, P1: jobs.
func TestJobErrors(t *testing.T) {
	with := func(change func(j []api.Job)) []api.Job {
		jobs := []api.Job{job("a", step("saw", 1, 0), step("polish", 1, 0)), job("b", step("polish", 1, 0))}
		change(jobs)
		return jobs
	}
	type refusal struct {
		jobs     []api.Job
		e, chain api.Errno // chain is the error for the last job alone
	}
	list := []refusal{
		{make([]api.Job, 129), api.ErrTooMany, api.ErrInvalid}, {with(func(j []api.Job) { j[1].Steps, j[0].Steps = make([]api.Step, 17), nil }), api.ErrTooMany, api.ErrTooMany}, {make([]api.Job, 128), api.ErrInvalid, api.ErrInvalid},
		{with(func(j []api.Job) { j[1].Steps, j[0].Name = nil, "A" }), api.ErrInvalid, api.ErrInvalid}, {with(func(j []api.Job) { j[1].Name, j[0].Release = "B", -1 }), api.ErrName, api.ErrName}, {with(func(j []api.Job) { j[1].Steps[0].Work, j[0].Release = "?", -1 }), api.ErrName, api.ErrName},
		{with(func(j []api.Job) { j[1].Name, j[0].Steps[1].Work = "a", "carve" }), api.ErrDuplicate, api.OK}, {with(func(j []api.Job) { j[0].Name = "c" }), api.ErrDuplicate, api.OK}, {with(func(j []api.Job) { j[1].Steps[0].Work = "carve" }), api.ErrUnknown, api.ErrUnknown},
	}
	set := func(place func(j []api.Job) *int, values ...int) {
		for _, n := range values {
			list = append(list, refusal{with(func(j []api.Job) { *place(j) = n; j[0].Name = "b" }), api.ErrRange, api.ErrRange})
		}
	}
	set(func(j []api.Job) *int { return &j[1].Steps[0].Minutes }, 0, -1, 100001, math.MaxInt)
	set(func(j []api.Job) *int { return &j[1].Steps[0].Drying }, -1, 100001, math.MinInt)
	set(func(j []api.Job) *int { return &j[1].Release }, -1, 10000001)
	set(func(j []api.Job) *int { return &j[1].Due }, -1, 10000001)
	set(func(j []api.Job) *int { return &j[1].Priority }, -1, 101)
	for i, c := range list {
		load, e1 := machine.Load(machines(), c.jobs)
		chain, e2 := machine.Chain(machines(), c.jobs[len(c.jobs)-1])
		if e := machine.CheckJobs(machines(), c.jobs); e != c.e || e1 != c.e || e2 != c.chain || load != nil || e2 != api.OK && chain != 0 {
			t.Errorf("refusal %d: %d, %d, %d, want %d, %d", i, e, e1, e2, c.e, c.chain)
		}
	}
	greatest := api.Job{Name: "a", Steps: slices.Repeat([]api.Step{step("saw", 100000, 100000)}, 16), Release: 10000000, Due: 10000000, Priority: 100}
	if n, e := machine.Chain(machines(), greatest); n != 3200000 || e != api.OK {
		t.Errorf("Chain = %d, %d", n, e)
	}
}

// P49.2, P1
func TestMinutesErrors(t *testing.T) {
	ok := machines()[1]
	for i, c := range []struct {
		change func(m *api.Machine, s *api.Step)
		e      api.Errno
	}{
		{func(m *api.Machine, s *api.Step) { m.Name, s.Minutes = "F", 0 }, api.ErrName}, {func(m *api.Machine, s *api.Step) { m.Work, s.Minutes = "", 0 }, api.ErrName}, {func(m *api.Machine, s *api.Step) { s.Work, s.Minutes = "S", 0 }, api.ErrName},
		{func(m *api.Machine, s *api.Step) { m.Setup, s.Work = -1, "carve" }, api.ErrRange}, {func(m *api.Machine, s *api.Step) { m.Setup = 100001 }, api.ErrRange}, {func(m *api.Machine, s *api.Step) { s.Minutes, s.Work = 0, "carve" }, api.ErrRange}, {func(m *api.Machine, s *api.Step) { s.Minutes = 100001 }, api.ErrRange}, {func(m *api.Machine, s *api.Step) { s.Drying, s.Work = -1, "carve" }, api.ErrRange}, {func(m *api.Machine, s *api.Step) { s.Drying = 100001 }, api.ErrRange},
		{func(m *api.Machine, s *api.Step) { s.Work = "carve" }, api.ErrConflict},
	} {
		m, s := ok, step("saw", 5, 0)
		c.change(&m, &s)
		for _, fresh := range []bool{true, false} {
			if n, e := machine.Minutes(m, s, fresh); n != 0 || e != c.e {
				t.Errorf("Minutes %d = %d, %d", i, n, e)
			}
		}
	}
}

// P49.5
func TestProperties(t *testing.T) {
	r := rand.New(rand.NewSource(1))
	works := []string{"bore", "polish", "saw"}
	for range 1000 {
		var list []api.Machine
		for i := range r.Intn(5) {
			list = append(list, api.Machine{Name: "m" + strconv.Itoa(i), Work: works[r.Intn(3)], Setup: r.Intn(9)})
		}
		var jobs []api.Job
		for i := range r.Intn(4) {
			j := job("j" + strconv.Itoa(i))
			for range 1 + r.Intn(3) {
				j.Steps = append(j.Steps, step(works[r.Intn(3)], 1+r.Intn(9), r.Intn(5)))
			}
			jobs = append(jobs, j)
		}
		e := machine.CheckJobs(list, jobs)
		if lacking := machine.Works(list, jobs); (e == api.ErrUnknown) != (len(lacking) > 0) {
			t.Fatalf("CheckJobs(%v, %v) = %d; Works = %v", list, jobs, e, lacking)
		}
		load, e := machine.Load(list, jobs)
		if e != api.OK {
			continue
		}
		more, _ := machine.Load(append(slices.Clone(list), api.Machine{Name: "z", Work: works[r.Intn(3)]}), jobs)
		for i := range load {
			doers, _ := machine.Can(list, list[i].Work)
			want := 0
			for _, j := range jobs {
				for _, s := range j.Steps {
					if s.Work == list[i].Work && len(doers) == 1 {
						want += s.Minutes
					}
				}
			}
			if load[i] != want || more[i] > load[i] {
				t.Fatalf("Load(%v, %v) = %v; with one more machine %v", list, jobs, load, more)
			}
		}
		for _, j := range jobs {
			last := len(j.Steps) - 1
			less := j
			less.Steps = j.Steps[:last]
			whole, _ := machine.Chain(list, j)
			if part, e := machine.Chain(list, less); e == api.OK && whole != part+j.Steps[last].Minutes+j.Steps[last].Drying {
				t.Fatalf("Chain(%v) = %d, of %v it is %d", j, whole, less, part)
			}
		}
	}
}
