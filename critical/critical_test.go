package critical_test

import (
	"math"
	"math/rand"
	"slices"
	"strconv"
	"testing"

	"gangsaw/api"
	"gangsaw/critical"
	"gangsaw/jobshop"
)

func machines() []api.Machine {
	return []api.Machine{{Name: "s1", Work: "saw", Setup: 10}, {Name: "s2", Work: "saw", Setup: 10}, {Name: "p", Work: "polish"}}
}

func step(work string, minutes, drying int) api.Step {
	return api.Step{Work: work, Minutes: minutes, Drying: drying}
}

func jobs() []api.Job {
	return []api.Job{{Name: "a", Steps: []api.Step{step("saw", 30, 0), step("polish", 20, 5)}}, {Name: "b", Steps: []api.Step{step("saw", 40, 0)}}}
}

func slot(job string, step int, machine string, from, to int) api.Slot {
	return api.Slot{Job: job, Step: step, Machine: machine, From: from, To: to}
}

// P52.1, P52.2, P52.3: the examples.
func TestExamples(t *testing.T) {
	a, b := jobs()[0], jobs()[1]
	heads, e := critical.Heads(a)
	tails, f := critical.Tails(a)
	if !slices.Equal(heads, []int{0, 30}) || !slices.Equal(tails, []int{25, 5}) || e != api.OK || f != api.OK {
		t.Errorf("%v, %v, %d, %d", heads, tails, e, f)
	}
	if n, e := critical.Chain(a); n != 55 || e != api.OK {
		t.Errorf("Chain = %d, %d", n, e)
	}
	if n, e := critical.Chain(b); n != 40 || e != api.OK {
		t.Errorf("Chain = %d, %d", n, e)
	}
	for work, want := range map[string]int{"saw": 35, "polish": 55} {
		if n, e := critical.Load(machines(), jobs(), work); n != want || e != api.OK {
			t.Errorf("Load(%q) = %d, %d", work, n, e)
		}
	}
	if bound, e := critical.Best(machines(), jobs()); bound != (critical.Bound{critical.ByChain, "a", 55}) || e != api.OK {
		t.Errorf("Best = %v, %d", bound, e)
	}
	slots := []api.Slot{slot("a", 0, "s1", 0, 30), slot("a", 1, "p", 30, 50), slot("b", 0, "s2", 0, 40)}
	if path, e := critical.Path(machines(), jobs(), slots); !slices.Equal(path, []int{1, 0}) || e != api.OK {
		t.Errorf("Path = %v, %d", path, e)
	}
	single := []api.Machine{machines()[0], machines()[2]}
	if n, e := critical.Load(single, jobs(), "saw"); n != 70 || e != api.OK {
		t.Errorf("Load = %d, %d", n, e)
	}
	slots[1].From, slots[1].To = 31, 51
	if path, e := critical.Path(machines(), jobs(), slots); path != nil || e != api.ErrState {
		t.Errorf("Path = %v, %d", path, e)
	}
	for i, c := range []struct {
		list  []api.Machine
		bound critical.Bound
		want  bool
	}{
		{single, critical.Bound{critical.ByWork, "saw", 70}, true}, {single, critical.Bound{critical.ByWork, "saw", 71}, false}, {single, critical.Bound{critical.ByWork, "saw", math.MinInt}, true}, {single, critical.Bound{critical.ByWork, "polish", 55}, true}, {single, critical.Bound{critical.ByWork, "carve", 0}, false}, {single, critical.Bound{critical.ByWork, "a", 0}, false},
		{single, critical.Bound{critical.ByChain, "a", 55}, true}, {single, critical.Bound{critical.ByChain, "a", 56}, false}, {single, critical.Bound{critical.ByChain, "b", 41}, false}, {single, critical.Bound{critical.ByChain, "saw", 0}, false}, {single, critical.Bound{0, "a", 0}, false}, {single, critical.Bound{3, "a", 0}, false}, {nil, critical.Bound{critical.ByChain, "a", 0}, false}, {single, critical.Bound{critical.ByChain, "", 0}, false},
	} {
		if got := critical.Verify(c.list, jobs(), c.bound); got != c.want {
			t.Errorf("Verify %d = %v", i, got)
		}
	}
}

// P52.2: of several greatest bounds the first one counts.
func TestBest(t *testing.T) {
	one := func(name, work string, minutes, release int) api.Job {
		return api.Job{Name: name, Steps: []api.Step{step(work, minutes, 0)}, Release: release}
	}
	list := []api.Machine{{Name: "m", Work: "saw"}, {Name: "n", Work: "bore"}}
	for i, c := range []struct {
		jobs []api.Job
		want critical.Bound
	}{
		{[]api.Job{one("z", "saw", 5, 3), one("a", "bore", 8, 0)}, critical.Bound{critical.ByChain, "z", 8}},
		{[]api.Job{one("z", "saw", 5, 3), one("a", "bore", 5, 2)}, critical.Bound{critical.ByChain, "z", 8}},
		{[]api.Job{one("z", "saw", 5, 3), one("a", "saw", 5, 2)}, critical.Bound{critical.ByWork, "saw", 12}},
		{[]api.Job{one("z", "saw", 5, 0), one("y", "bore", 5, 0), one("x", "saw", 5, 0), one("w", "bore", 5, 0)}, critical.Bound{critical.ByWork, "bore", 10}},
	} {
		if got, e := critical.Best(list, c.jobs); got != c.want || e != api.OK {
			t.Errorf("Best %d = %v, %d", i, got, e)
		}
	}
	if got, e := critical.Best(list, nil); got != (critical.Bound{}) || e != api.ErrNone {
		t.Errorf("Best = %v, %d", got, e)
	}
	// The sum is divided by the number of machines and rounded up; the heads and tails may be of different steps.
	two := append(list, api.Machine{Name: "o", Work: "saw"})
	long := []api.Job{{Name: "a", Steps: []api.Step{step("bore", 4, 1), step("saw", 3, 0)}}, {Name: "b", Steps: []api.Step{step("saw", 4, 2), step("bore", 9, 0)}, Release: 2}}
	if n, e := critical.Load(two, long, "saw"); n != 2+4+0 || e != api.OK {
		t.Errorf("Load = %d, %d", n, e)
	}
	if n, e := critical.Load(two, long, "bore"); n != 0+13+0 || e != api.OK {
		t.Errorf("Load = %d, %d", n, e)
	}
}

// P52.1 to P52.4, P1
func TestErrors(t *testing.T) {
	for i, c := range []struct {
		j api.Job
		e api.Errno
	}{
		{api.Job{Name: "A", Steps: make([]api.Step, 17)}, api.ErrTooMany}, {api.Job{Name: "A"}, api.ErrName}, {api.Job{Name: "a", Steps: []api.Step{step("", 0, 0)}}, api.ErrName}, {api.Job{Name: "a", Steps: []api.Step{step("w", 0, 0)}}, api.ErrRange}, {api.Job{Name: "a", Release: -1}, api.ErrRange}, {api.Job{Name: "a"}, api.ErrNone},
	} {
		n, e1 := critical.Chain(c.j)
		heads, e2 := critical.Heads(c.j)
		tails, e3 := critical.Tails(c.j)
		if e1 != c.e || e2 != c.e || e3 != c.e || n != 0 || heads != nil || tails != nil {
			t.Errorf("job %d: %d, %d, %d, want %d", i, e1, e2, e3, c.e)
		}
	}
	many := api.Job{Name: "a"}
	for i := range 17 {
		many.Steps = append(many.Steps, step("w"+strconv.Itoa(i), 1, 0))
	}
	if _, e := critical.Chain(many); e != api.ErrTooMany {
		t.Errorf("Chain = %d", e)
	}
	many.Steps = many.Steps[:16]
	if n, e := critical.Chain(many); n != 16 || e != api.OK {
		t.Errorf("Chain = %d, %d", n, e)
	}
	n, e1 := critical.Load(nil, jobs(), "?")
	_, e2 := critical.Best(nil, jobs())
	path, e3 := critical.Path(nil, jobs(), nil)
	if e1 != api.ErrUnknown || e2 != api.ErrUnknown || e3 != api.ErrUnknown || path != nil || n != 0 {
		t.Errorf("%d, %d, %d", e1, e2, e3)
	}
	if n, e := critical.Load(append(machines(), api.Machine{Name: "c", Work: "carve"}), jobs(), "carve"); n != 0 || e != api.ErrNone {
		t.Errorf("Load = %d, %d", n, e)
	}
	if path, e := critical.Path(machines(), jobs(), nil); path != nil || e != api.ErrNone {
		t.Errorf("Path = %v, %d", path, e)
	}
	if path, e := critical.Path(machines(), nil, nil); path != nil || e != api.ErrNone {
		t.Errorf("Path = %v, %d", path, e)
	}
}

// P52.3: which slot holds, and which one comes first.
func TestPath(t *testing.T) {
	m := []api.Machine{{Name: "m", Work: "saw", Setup: 10}, {Name: "p", Work: "polish", Setup: 0}}
	one := func(name, work string, minutes, drying, release int) api.Job {
		return api.Job{Name: name, Steps: []api.Step{step(work, minutes, drying)}, Release: release}
	}
	for i, c := range []struct {
		jobs  []api.Job
		slots []api.Slot
		want  []int
		e     api.Errno
	}{
		{[]api.Job{one("a", "saw", 5, 0, 0), one("b", "saw", 5, 0, 0)}, []api.Slot{slot("b", 0, "m", 15, 20), slot("a", 0, "m", 0, 5)}, []int{0, 1}, api.OK},
		{[]api.Job{one("a", "saw", 5, 0, 0), one("b", "saw", 5, 0, 15)}, []api.Slot{slot("b", 0, "m", 15, 20), slot("a", 0, "m", 0, 5)}, []int{0}, api.OK},
		{[]api.Job{one("a", "saw", 5, 0, 0), one("b", "saw", 5, 0, 14)}, []api.Slot{slot("b", 0, "m", 16, 21), slot("a", 0, "m", 0, 5)}, nil, api.ErrState},
		{[]api.Job{one("a", "saw", 5, 9, 0), one("b", "polish", 14, 0, 0)}, []api.Slot{slot("b", 0, "p", 0, 14), slot("a", 0, "m", 0, 5)}, []int{0}, api.OK},
		{[]api.Job{one("a", "saw", 5, 9, 0), one("b", "polish", 14, 0, 0)}, []api.Slot{slot("a", 0, "m", 0, 5), slot("b", 0, "p", 0, 14)}, []int{0}, api.OK},
		{[]api.Job{one("a", "saw", 5, 10, 0), one("b", "polish", 14, 0, 0)}, []api.Slot{slot("b", 0, "p", 0, 14), slot("a", 0, "m", 0, 5)}, []int{1}, api.OK},
		{[]api.Job{one("a", "saw", 5, 0, 3), one("b", "saw", 5, 0, 3)}, []api.Slot{slot("b", 0, "m", 18, 23), slot("a", 0, "m", 3, 8)}, []int{0, 1}, api.OK},
		{[]api.Job{{Name: "a", Steps: []api.Step{step("saw", 5, 3), step("polish", 4, 0), step("polish", 6, 0)}}, one("b", "polish", 8, 0, 0)}, []api.Slot{slot("b", 0, "p", 0, 8), slot("a", 0, "m", 0, 5), slot("a", 1, "p", 8, 12), slot("a", 2, "p", 12, 18)}, []int{3, 2, 1}, api.OK},
		{[]api.Job{{Name: "a", Steps: []api.Step{step("saw", 5, 2), step("polish", 4, 0), step("polish", 6, 0)}}, one("b", "polish", 8, 0, 0)}, []api.Slot{slot("b", 0, "p", 0, 8), slot("a", 0, "m", 0, 5), slot("a", 1, "p", 8, 12), slot("a", 2, "p", 12, 18)}, []int{3, 2, 0}, api.OK},
		{[]api.Job{one("a", "saw", 5, 0, 0), one("b", "saw", 5, 0, 0)}, []api.Slot{slot("b", 0, "m", math.MaxInt-5, math.MaxInt), slot("a", 0, "m", 0, 5)}, nil, api.ErrState},
	} {
		if got, e := critical.Path(m, c.jobs, c.slots); !slices.Equal(got, c.want) || e != c.e {
			t.Errorf("Path %d = %v, %d", i, got, e)
		}
	}
}

// P52.4
func TestSlack(t *testing.T) {
	due := jobs()
	due[0].Due, due[1].Due = 54, 100
	slots := []api.Slot{slot("a", 0, "s1", 0, 30), slot("a", 1, "p", 30, 50), slot("b", 0, "s2", 0, 40)}
	if got, e := critical.Slack(due, slots); !slices.Equal(got, []int{-1, 60}) || e != api.OK {
		t.Errorf("Slack = %v, %d", got, e)
	}
	if got, e := critical.Slack(due, slots[:2]); got != nil || e != api.ErrNone {
		t.Errorf("Slack = %v, %d", got, e)
	}
	if got, e := critical.Slack(due, append(slots, slot("c", 0, "s1", 0, 1))); got != nil || e != api.ErrUnknown {
		t.Errorf("Slack = %v, %d", got, e)
	}
	if got, e := critical.Slack(nil, nil); len(got) != 0 || e != api.OK {
		t.Errorf("Slack = %v, %d", got, e)
	}
	twins := []api.Job{{Name: "a", Steps: []api.Step{step("saw", 1, 7)}, Due: 20}, {Name: "a", Due: 3}}
	if got, e := critical.Slack(twins, []api.Slot{slot("a", 0, "?", 0, 5), slot("a", 0, "?", -9, -1)}); !slices.Equal(got, []int{8, -9}) || e != api.OK {
		t.Errorf("Slack = %v, %d", got, e)
	}
	if got, e := critical.Slack(twins[:1], []api.Slot{slot("a", 0, "?", -99, -50)}); !slices.Equal(got, []int{63}) || e != api.OK {
		t.Errorf("Slack = %v, %d", got, e)
	}
}

func random(r *rand.Rand) ([]api.Machine, []api.Job) {
	works := []string{"polish", "saw"}
	list := []api.Machine{{Name: "a", Work: works[0], Setup: r.Intn(5)}, {Name: "b", Work: works[1], Setup: r.Intn(5)}, {Name: "c", Work: works[r.Intn(2)], Setup: r.Intn(5)}}
	var jobs []api.Job
	for i := range 1 + r.Intn(3) {
		j := api.Job{Name: "j" + strconv.Itoa(9-i), Release: r.Intn(6)}
		for range 1 + r.Intn(3) {
			j.Steps = append(j.Steps, step(works[r.Intn(2)], 1+r.Intn(9), r.Intn(4)))
		}
		jobs = append(jobs, j)
	}
	return list, jobs
}

// P52.1 to P52.5
func TestProperties(t *testing.T) {
	r := rand.New(rand.NewSource(1))
	for range 1500 {
		m, j := random(r)
		for _, x := range j {
			chain, _ := critical.Chain(x)
			heads, _ := critical.Heads(x)
			tails, _ := critical.Tails(x)
			for i, s := range x.Steps {
				if heads[i]+s.Minutes+tails[i] != chain || len(heads) != len(x.Steps) {
					t.Fatalf("%v: %v, %v, %d", x, heads, tails, chain)
				}
			}
		}
		slots, _ := jobshop.Earliest(m, j)
		end, _ := jobshop.End(j, slots)
		bound, e := critical.Best(m, j)
		if e != api.OK || !critical.Verify(m, j, bound) || bound.End > end {
			t.Fatalf("Best(%v, %v) = %v, %d; a schedule ends at %d", m, j, bound, e, end)
		}
		if critical.Verify(m, j, critical.Bound{bound.Kind, bound.Name, bound.End + 1}) {
			t.Fatalf("Verify(%v, %v) of more than %v", m, j, bound)
		}
		tight, _ := jobshop.Tighten(m, j, slots)
		r.Shuffle(len(tight), func(i, k int) { tight[i], tight[k] = tight[k], tight[i] })
		path, e := critical.Path(m, j, tight)
		if e != api.OK || !isPath(m, j, tight, path) {
			t.Fatalf("Path(%v, %v, %v) = %v, %d", m, j, tight, path, e)
		}
		if few, e := jobshop.Best(m, j); e == api.OK {
			if n, _ := jobshop.End(j, few); n < bound.End {
				t.Fatalf("Best(%v, %v) = %v; a schedule ends at %d", m, j, bound, n)
			}
		}
	}
}

func isPath(m []api.Machine, jobs []api.Job, slots []api.Slot, path []int) bool {
	job := func(s api.Slot) api.Job {
		return jobs[slices.IndexFunc(jobs, func(j api.Job) bool { return j.Name == s.Job })]
	}
	end, _ := jobshop.End(jobs, slots)
	first, last := slots[path[0]], slots[path[len(path)-1]]
	if first.To+job(first).Steps[first.Step].Drying != end || last.Step != 0 || last.From != job(last).Release {
		return false
	}
	for i := 1; i < len(path); i++ {
		x, y := slots[path[i-1]], slots[path[i]]
		setup := m[slices.IndexFunc(m, func(k api.Machine) bool { return k.Name == x.Machine })].Setup
		if x.Job == y.Job {
			setup = 0
		}
		byStep := x.Job == y.Job && y.Step == x.Step-1 && x.From == y.To+job(y).Steps[y.Step].Drying
		if !byStep && (x.Machine != y.Machine || x.From != y.To+setup) {
			return false
		}
	}
	return true
}
