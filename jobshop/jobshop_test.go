package jobshop_test

import (
	"math"
	"math/rand"
	"slices"
	"strconv"
	"strings"
	"testing"

	"gangsaw/api"
	"gangsaw/jobshop"
)

// machines and jobs are those of the chapter's examples.
func machines() []api.Machine {
	return []api.Machine{{Name: "s1", Work: "saw", Setup: 10}, {Name: "s2", Work: "saw", Setup: 10}, {Name: "p", Work: "polish"}}
}

func step(work string, minutes, drying int) api.Step {
	return api.Step{Work: work, Minutes: minutes, Drying: drying}
}

func jobs() []api.Job {
	return []api.Job{{Name: "a", Steps: []api.Step{step("saw", 30, 0), step("polish", 20, 5)}}, {Name: "b", Steps: []api.Step{step("saw", 40, 0)}}}
}

func slot(job string, step int, machine string, from, to int) api.Slot {
	return api.Slot{Job: job, Step: step, Machine: machine, From: from, To: to}
}

func example() []api.Slot {
	return []api.Slot{slot("a", 0, "s1", 0, 30), slot("a", 1, "p", 30, 50), slot("b", 0, "s2", 0, 40)}
}

// P50.2, P50.3, P50.4: the examples.
func TestExamples(t *testing.T) {
	got, e := jobshop.Earliest(machines(), jobs())
	if !slices.Equal(got, example()) || e != api.OK {
		t.Errorf("Earliest = %v, %d", got, e)
	}
	if n, e := jobshop.End(jobs(), got); n != 55 || e != api.OK {
		t.Errorf("End = %d, %d", n, e)
	}
	single := []api.Machine{machines()[0], machines()[2]}
	got, e = jobshop.Earliest(single, jobs())
	if !slices.Equal(got, []api.Slot{slot("a", 0, "s1", 0, 30), slot("a", 1, "p", 30, 50), slot("b", 0, "s1", 40, 80)}) || e != api.OK {
		t.Errorf("Earliest = %v, %d", got, e)
	}
	if n, e := jobshop.End(jobs(), got); n != 80 || e != api.OK {
		t.Errorf("End = %d, %d", n, e)
	}
	urgent := jobs()
	urgent[1].Priority = 1
	want := []api.Slot{slot("a", 0, "s2", 0, 30), slot("a", 1, "p", 30, 50), slot("b", 0, "s1", 0, 40)}
	got, _ = jobshop.Earliest(machines(), urgent)
	if !slices.Equal(got, want) {
		t.Errorf("Earliest = %v", got)
	}
	late := []api.Slot{slot("b", 0, "s1", 100, 140), slot("a", 1, "p", 130, 150), slot("a", 0, "s2", 100, 130)}
	if got, e := jobshop.Tighten(machines(), jobs(), late); !slices.Equal(got, want) || e != api.OK {
		t.Errorf("Tighten = %v, %d", got, e)
	}
}

// P50.2: ties go by the priority, the due, the job, the machine.
func TestRule(t *testing.T) {
	one := func(name string, priority, due, release int) api.Job {
		return api.Job{Name: name, Steps: []api.Step{step("saw", 10, 0)}, Priority: priority, Due: due, Release: release}
	}
	list := []api.Machine{{Name: "z", Work: "saw", Setup: 3}}
	for i, c := range []struct {
		jobs  []api.Job
		order []string
	}{
		{[]api.Job{one("b", 0, 0, 0), one("a", 0, 0, 0)}, []string{"b", "a"}}, {[]api.Job{one("b", 0, 5, 0), one("a", 0, 4, 0)}, []string{"a", "b"}}, {[]api.Job{one("b", 0, 4, 0), one("a", 1, 5, 0)}, []string{"a", "b"}}, {[]api.Job{one("b", 9, 0, 1), one("a", 0, 9, 0)}, []string{"a", "b"}},
	} {
		got, e := jobshop.Earliest(list, c.jobs)
		slices.SortFunc(got, func(a, b api.Slot) int { return a.From - b.From })
		if e != api.OK || got[0].Job != c.order[0] || got[1].Job != c.order[1] || got[0].From != 0 || got[1].From != 13 {
			t.Errorf("Earliest %d = %v, %d", i, got, e)
		}
	}
	// A machine that is free earlier is taken; its setup counts only behind another job.
	list = []api.Machine{{Name: "slow", Work: "saw", Setup: 100}, {Name: "fast", Work: "saw", Setup: 1}}
	twice := []api.Job{{Name: "a", Steps: []api.Step{step("saw", 10, 2), step("saw", 10, 0)}}, {Name: "b", Steps: []api.Step{step("saw", 5, 0), step("saw", 9, 0)}, Release: 1}}
	got, e := jobshop.Earliest(list, twice)
	if !slices.Equal(got, []api.Slot{slot("a", 0, "slow", 0, 10), slot("a", 1, "slow", 12, 22), slot("b", 0, "fast", 1, 6), slot("b", 1, "fast", 6, 15)}) || e != api.OK {
		t.Errorf("Earliest = %v, %d", got, e)
	}
	if got, e := jobshop.Earliest(nil, nil); len(got) != 0 || e != api.OK {
		t.Errorf("Earliest = %v, %d", got, e)
	}
}

// P50.3
func TestQuestions(t *testing.T) {
	due := jobs()
	due[0].Due, due[1].Due = 54, 40
	names, sum, e := jobshop.Late(due, example())
	if !slices.Equal(names, []string{"a"}) || sum != 1 || e != api.OK {
		t.Errorf("Late = %v, %d, %d", names, sum, e)
	}
	due[1].Due = 30
	names, sum, e = jobshop.Late([]api.Job{due[1], due[0], {Name: "b"}, {Name: "c"}}, example())
	if !slices.Equal(names, []string{"a", "b"}) || sum != 11 || e != api.OK {
		t.Errorf("Late = %v, %d, %d", names, sum, e)
	}
	if names, sum, e := jobshop.Late(nil, nil); len(names)+sum != 0 || e != api.OK {
		t.Errorf("Late = %v, %d, %d", names, sum, e)
	}
	if n, e := jobshop.End(nil, nil); n != 0 || e != api.OK {
		t.Errorf("End = %d, %d", n, e)
	}
	if n, e := jobshop.End(jobs(), []api.Slot{slot("a", 1, "?", -100, -50)}); n != 0 || e != api.OK {
		t.Errorf("End = %d, %d", n, e)
	}
	for i, s := range []api.Slot{slot("c", 0, "s1", 0, 1), slot("a", 2, "s1", 0, 1), slot("a", -1, "s1", 0, 1), slot("a", math.MinInt, "s1", 0, 1)} {
		n, e1 := jobshop.End(jobs(), []api.Slot{example()[0], s})
		names, sum, e2 := jobshop.Late(jobs(), []api.Slot{s})
		if n != 0 || len(names)+sum != 0 || e1 != api.ErrUnknown || e2 != api.ErrUnknown {
			t.Errorf("slot %d: %d, %v, %d, %d, %d", i, n, names, sum, e1, e2)
		}
	}
	list := []api.Slot{slot("b", 0, "s1", 50, 60), slot("a", 0, "s1", 0, 30), slot("a", 1, "s1", 30, 35), slot("x", 9, "s2", 0, 99), slot("b", 1, "s1", 90, 91), slot("a", 7, "s1", 90, 92)}
	twins := append(machines(), api.Machine{Name: "s1", Setup: 1000})
	if n, e := jobshop.Busy(twins, list, "s1"); n != 10+30+5+1+2+30 || e != api.OK {
		t.Errorf("Busy = %d, %d", n, e)
	}
	if n, e := jobshop.Busy(twins, list, "p"); n != 0 || e != api.OK {
		t.Errorf("Busy = %d, %d", n, e)
	}
	if n, e := jobshop.Busy(twins, list, "q"); n != 0 || e != api.ErrUnknown {
		t.Errorf("Busy = %d, %d", n, e)
	}
	same := []api.Slot{slot("b", 1, "m", 0, 5), slot("b", 0, "m", 1, 6), slot("a", 9, "m", 2, 3), slot("b", 0, "m", 0, 9), slot("z", 0, "l", 2, 4)}
	for minute, want := range map[int][]api.Slot{2: {same[4], same[2], same[1], same[3], same[0]}, 5: {same[1], same[3]}, 8: {same[3]}, 9: nil, -1: nil, 0: {same[3], same[0]}} {
		if got := jobshop.At(same, minute); !slices.Equal(got, want) {
			t.Errorf("At(%d) = %v", minute, got)
		}
	}
}

// P50.1, P1: machines and jobs.
func TestCheck(t *testing.T) {
	type refusal struct {
		change func(m []api.Machine, j []api.Job) ([]api.Machine, []api.Job)
		e      api.Errno
	}
	is := func(change func(m []api.Machine, j []api.Job), e api.Errno) refusal {
		return refusal{func(m []api.Machine, j []api.Job) ([]api.Machine, []api.Job) { change(m, j); return m, j }, e}
	}
	list := []refusal{
		{func(m []api.Machine, j []api.Job) ([]api.Machine, []api.Job) { return make([]api.Machine, 33), j }, api.ErrTooMany},
		{func(m []api.Machine, j []api.Job) ([]api.Machine, []api.Job) { return m, make([]api.Job, 129) }, api.ErrTooMany},
		{func(m []api.Machine, j []api.Job) ([]api.Machine, []api.Job) {
			return make([]api.Machine, 32), make([]api.Job, 128)
		}, api.ErrName},
		{func(m []api.Machine, j []api.Job) ([]api.Machine, []api.Job) { return nil, j }, api.ErrUnknown},
		is(func(m []api.Machine, j []api.Job) { j[1].Steps, m[0].Name = make([]api.Step, 17), "" }, api.ErrTooMany),
		is(func(m []api.Machine, j []api.Job) { m[2].Name, m[0].Setup = strings.Repeat("p", 25), -1 }, api.ErrName),
		is(func(m []api.Machine, j []api.Job) { m[2].Work, m[0].Setup = "P", -1 }, api.ErrName),
		is(func(m []api.Machine, j []api.Job) { j[1].Name, m[0].Setup = "B", -1 }, api.ErrName),
		is(func(m []api.Machine, j []api.Job) { j[1].Steps[0].Work, m[0].Setup = "", -1 }, api.ErrName),
		is(func(m []api.Machine, j []api.Job) { j[0].Steps, j[1].Name = nil, "a" }, api.ErrNone),
		is(func(m []api.Machine, j []api.Job) { j[1].Name, j[1].Steps[0].Work = "a", "carve" }, api.ErrDuplicate),
		is(func(m []api.Machine, j []api.Job) { m[2].Name, m[0].Name, j[1].Steps[0].Work = "s2", "z", "carve" }, api.ErrDuplicate),
		is(func(m []api.Machine, j []api.Job) { j[0].Steps[1].Work = "carve" }, api.ErrUnknown),
	}
	set := func(place func(m []api.Machine, j []api.Job) *int, values ...int) {
		for _, n := range values {
			list = append(list, is(func(m []api.Machine, j []api.Job) { *place(m, j) = n; m[1].Name = "s1" }, api.ErrRange))
		}
	}
	set(func(m []api.Machine, j []api.Job) *int { return &m[2].Setup }, -1, 1441, math.MaxInt)
	set(func(m []api.Machine, j []api.Job) *int { return &j[0].Steps[1].Minutes }, 0, -1, 1000001)
	set(func(m []api.Machine, j []api.Job) *int { return &j[0].Steps[1].Drying }, -1, 1000001)
	set(func(m []api.Machine, j []api.Job) *int { return &j[1].Release }, -1, 1000001)
	set(func(m []api.Machine, j []api.Job) *int { return &j[1].Due }, -1, 1000001)
	set(func(m []api.Machine, j []api.Job) *int { return &j[1].Priority }, -1, 101, math.MinInt)
	for i, c := range list {
		m, j := c.change(machines(), jobs())
		bad := []api.Slot{slot("?", 0, "?", 0, 0)}
		s1, e1 := jobshop.Earliest(m, j)
		s2, e2 := jobshop.Tighten(m, j, bad)
		s3, e3 := jobshop.Best(m, j)
		for k, e := range []api.Errno{jobshop.Check(m, j), e1, e2, e3, jobshop.Verify(m, j, bad)} {
			if e != c.e {
				t.Errorf("refusal %d, function %d: %d, want %d", i, k, e, c.e)
			}
		}
		if len(s1)+len(s2)+len(s3) != 0 {
			t.Errorf("refusal %d has results", i)
		}
	}
	if e := jobshop.Check([]api.Machine{{Name: "a", Work: "w", Setup: 1440}}, []api.Job{{Name: "j", Steps: slices.Repeat([]api.Step{step("w", 1000000, 1000000)}, 16), Release: 1000000, Due: 1000000, Priority: 100}}); e != api.OK {
		t.Errorf("Check = %d", e)
	}
}

// P50.1, P1: schedules.
func TestVerify(t *testing.T) {
	for i, c := range []struct {
		change func(s []api.Slot) []api.Slot
		e      api.Errno
	}{
		{func(s []api.Slot) []api.Slot { return s }, api.OK}, {func(s []api.Slot) []api.Slot { return []api.Slot{s[2], s[1], s[0]} }, api.OK},
		{func(s []api.Slot) []api.Slot { s[2].Job = "c"; return append(s, s[0]) }, api.ErrUnknown}, {func(s []api.Slot) []api.Slot { s[2].Step = 1; return append(s, s[0]) }, api.ErrUnknown}, {func(s []api.Slot) []api.Slot { s[2].Step = -1; return s }, api.ErrUnknown}, {func(s []api.Slot) []api.Slot { s[2].Machine = "s3"; return append(s, s[0]) }, api.ErrUnknown},
		{func(s []api.Slot) []api.Slot { return append(s[:2], s[0]) }, api.ErrDuplicate}, {func(s []api.Slot) []api.Slot { s[0].Machine = "p"; return s[:2] }, api.ErrNone}, {func(s []api.Slot) []api.Slot { return nil }, api.ErrNone},
		{func(s []api.Slot) []api.Slot { s[2].Machine, s[0].From = "p", -1; return s }, api.ErrConflict},
		{func(s []api.Slot) []api.Slot { s[2].To, s[1].From, s[1].To = 41, 0, 20; return s }, api.ErrRange}, {func(s []api.Slot) []api.Slot { s[2].From, s[2].To = -40, 0; return s }, api.ErrRange}, {func(s []api.Slot) []api.Slot { s[2].From, s[2].To = math.MaxInt, math.MinInt+39; return s }, api.ErrRange}, {func(s []api.Slot) []api.Slot { s[2].From, s[2].To = math.MinInt, math.MinInt+40; return s }, api.ErrRange},
		{func(s []api.Slot) []api.Slot { s[1].From, s[1].To, s[2].Machine = 29, 49, "s1"; return s }, api.ErrState}, {func(s []api.Slot) []api.Slot { s[0].From, s[0].To = math.MaxInt-30, math.MaxInt; return s }, api.ErrState},
		{func(s []api.Slot) []api.Slot { s[2].Machine = "s1"; return s }, api.ErrOverlap}, {func(s []api.Slot) []api.Slot { s[2] = slot("b", 0, "s1", 39, 79); return s }, api.ErrOverlap}, {func(s []api.Slot) []api.Slot { s[2] = slot("b", 0, "s1", 40, 80); return s }, api.OK},
		{func(s []api.Slot) []api.Slot { s[2] = slot("b", 0, "s1", math.MaxInt-40, math.MaxInt); return s }, api.OK},
	} {
		s := c.change(example())
		got, e := jobshop.Tighten(machines(), jobs(), s)
		if f := jobshop.Verify(machines(), jobs(), s); f != c.e || e != c.e || e != api.OK && got != nil {
			t.Errorf("Verify %d = %d, %d, want %d", i, f, e, c.e)
		}
	}
	// Two slots of the same job need no setup between them, those behind a drying have to wait, and releases count.
	m := []api.Machine{{Name: "m", Work: "saw", Setup: 10}}
	j := []api.Job{{Name: "a", Steps: []api.Step{step("saw", 5, 0), step("saw", 5, 3), step("saw", 5, 0)}, Release: 7}}
	good := []api.Slot{slot("a", 0, "m", 7, 12), slot("a", 1, "m", 12, 17), slot("a", 2, "m", 20, 25)}
	if e := jobshop.Verify(m, j, good); e != api.OK {
		t.Errorf("Verify = %d", e)
	}
	for i := range good {
		early := slices.Clone(good)
		early[i].From--
		early[i].To--
		if e := jobshop.Verify(m, j, early); e != api.ErrState {
			t.Errorf("Verify with an early slot %d: %d", i, e)
		}
	}
}

// P50.5, P1
func TestBestErrors(t *testing.T) {
	j := []api.Job{{Name: "a", Steps: slices.Repeat([]api.Step{step("saw", 1, 0)}, 6)}}
	if s, e := jobshop.Best(machines(), j); s != nil || e != api.ErrTooMany {
		t.Errorf("Best = %v, %d", s, e)
	}
	j[0].Steps = j[0].Steps[:5]
	if s, e := jobshop.Best(machines(), j); len(s) != 5 || e != api.OK {
		t.Errorf("Best = %v, %d", s, e)
	}
	if s, e := jobshop.Best(nil, nil); len(s) != 0 || e != api.OK {
		t.Errorf("Best = %v, %d", s, e)
	}
	var many []api.Machine
	j = nil
	for i := range 32 {
		many = append(many, api.Machine{Name: "m" + strconv.Itoa(i), Work: "saw", Setup: i})
	}
	for i := range 5 {
		j = append(j, api.Job{Name: "j" + strconv.Itoa(i), Steps: []api.Step{step("saw", 10, 0)}})
	}
	s, _ := jobshop.Best(many, j)
	if n, e := jobshop.End(j, s); n != 10 || e != api.OK {
		t.Errorf("the end is %d, %d", n, e)
	}
}

func random(r *rand.Rand, steps int) ([]api.Machine, []api.Job) {
	works := []string{"polish", "saw"}
	list := []api.Machine{{Name: "a", Work: works[0], Setup: r.Intn(5)}, {Name: "b", Work: works[1], Setup: r.Intn(5)}}
	for i := range r.Intn(3) {
		list = append(list, api.Machine{Name: "m" + strconv.Itoa(i), Work: works[r.Intn(2)], Setup: r.Intn(5)})
	}
	var jobs []api.Job
	for steps > 0 && len(jobs) < 4 {
		j := api.Job{Name: "j" + strconv.Itoa(9-len(jobs)), Release: r.Intn(6), Due: r.Intn(30), Priority: r.Intn(3)}
		for range 1 + r.Intn(min(steps, 3)) {
			j.Steps = append(j.Steps, step(works[r.Intn(2)], 1+r.Intn(9), r.Intn(4)))
			steps--
		}
		jobs = append(jobs, j)
	}
	return list, jobs
}

func end(t *testing.T, jobs []api.Job, slots []api.Slot) int {
	n, e := jobshop.End(jobs, slots)
	if e != api.OK {
		t.Fatal(e)
	}
	return n
}

// alone is when a job could end if it were alone.
func alone(j api.Job) int {
	n := j.Release
	for _, s := range j.Steps {
		n += s.Minutes + s.Drying
	}
	return n
}

// P50.1, P50.2, P50.4, P50.6
func TestProperties(t *testing.T) {
	r := rand.New(rand.NewSource(1))
	for range 1500 {
		m, j := random(r, 8)
		slots, e := jobshop.Earliest(m, j)
		if e != api.OK || jobshop.Verify(m, j, slots) != api.OK {
			t.Fatalf("Earliest(%v, %v) = %v, %d", m, j, slots, e)
		}
		n := end(t, j, slots)
		for _, x := range j {
			if n < alone(x) {
				t.Fatalf("Earliest(%v, %v) = %v ends at %d", m, j, slots, n)
			}
			only, _ := jobshop.Earliest(m, []api.Job{x})
			if k := end(t, []api.Job{x}, only); k != alone(x) {
				t.Fatalf("Earliest(%v, %v) ends at %d", m, x, k)
			}
		}
		// Stretching all instants keeps a schedule, and leaves gaps.
		factor := 1 + r.Intn(3)
		wide := slices.Clone(slots)
		for i := range wide {
			length := wide[i].To - wide[i].From
			wide[i].From *= factor
			wide[i].To = wide[i].From + length
		}
		r.Shuffle(len(wide), func(i, k int) { wide[i], wide[k] = wide[k], wide[i] })
		tight, e := jobshop.Tighten(m, j, wide)
		again, _ := jobshop.Tighten(m, j, tight)
		if e != api.OK || jobshop.Verify(m, j, tight) != api.OK || !slices.Equal(again, tight) {
			t.Fatalf("Tighten(%v, %v, %v) = %v, %d", m, j, wide, tight, e)
		}
		k := 0
		for _, x := range j {
			for i := range x.Steps {
				s := tight[k]
				w := wide[slices.IndexFunc(wide, func(w api.Slot) bool { return w.Job == x.Name && w.Step == i })]
				if s.Job != x.Name || s.Step != i || s.Machine != w.Machine || s.From > w.From || !isTight(m, j, wide, tight, s) {
					t.Fatalf("Tighten(%v, %v, %v) = %v", m, j, wide, tight)
				}
				k++
			}
		}
	}
}

// isTight reports whether a slot begins when its step is ready, or as soon as a slot before it allows.
func isTight(m []api.Machine, jobs []api.Job, wide, tight []api.Slot, s api.Slot) bool {
	find := func(list []api.Slot, job string, step int) api.Slot {
		return list[slices.IndexFunc(list, func(x api.Slot) bool { return x.Job == job && x.Step == step })]
	}
	j := jobs[slices.IndexFunc(jobs, func(j api.Job) bool { return j.Name == s.Job })]
	from := j.Release
	if s.Step > 0 {
		from = find(tight, s.Job, s.Step-1).To + j.Steps[s.Step-1].Drying
	}
	setup := m[slices.IndexFunc(m, func(x api.Machine) bool { return x.Name == s.Machine })].Setup
	for _, x := range tight {
		if x.Machine == s.Machine && find(wide, x.Job, x.Step).From < find(wide, s.Job, s.Step).From {
			free := x.To
			if x.Job != s.Job {
				free += setup
			}
			from = max(from, free)
		}
	}
	return s.From == from
}

// least is the least end, by trial of all orders on all machines.
func least(m []api.Machine, jobs []api.Job) int {
	best := math.MaxInt
	var try func(slots []api.Slot, done []int)
	try = func(slots []api.Slot, done []int) {
		isDone := true
		for i, j := range jobs {
			if done[i] == len(j.Steps) {
				continue
			}
			isDone = false
			for _, x := range m {
				if x.Work != j.Steps[done[i]].Work {
					continue
				}
				from := j.Release
				for _, s := range slots {
					if s.Job == j.Name {
						from = max(from, s.To+j.Steps[s.Step].Drying)
					}
					if s.Machine == x.Name && s.Job == j.Name {
						from = max(from, s.To)
					} else if s.Machine == x.Name {
						from = max(from, s.To+x.Setup)
					}
				}
				next := slices.Clone(done)
				next[i]++
				try(append(slices.Clone(slots), slot(j.Name, done[i], x.Name, from, from+j.Steps[done[i]].Minutes)), next)
			}
		}
		if isDone {
			n, _ := jobshop.End(jobs, slots)
			best = min(best, n)
		}
	}
	try(nil, make([]int, len(jobs)))
	return best
}

// P50.5: by trial.
func TestBest(t *testing.T) {
	r := rand.New(rand.NewSource(2))
	better := 0
	for range 300 {
		m, j := random(r, 1+r.Intn(5))
		slots, e := jobshop.Best(m, j)
		if e != api.OK || jobshop.Verify(m, j, slots) != api.OK || end(t, j, slots) != least(m, j) {
			t.Fatalf("Best(%v, %v) = %v, %d, want %d", m, j, slots, e, least(m, j))
		}
		rule, _ := jobshop.Earliest(m, j)
		if end(t, j, rule) > end(t, j, slots) {
			better++
		}
	}
	if better == 0 {
		t.Error("the rule is always the best")
	}
}
