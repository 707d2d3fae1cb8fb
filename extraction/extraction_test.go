package extraction_test

import (
	"fmt"
	"math"
	"math/rand"
	"slices"
	"testing"

	"gangsaw/api"
	"gangsaw/bench"
	"gangsaw/extraction"
	"gangsaw/support"
)

func block(name string, x, y, z, x2, y2, z2 int) api.Block {
	return api.Block{Name: name, Box: api.Box{Min: api.Vec{X: x, Y: y, Z: z}, Max: api.Vec{X: x2, Y: y2, Z: z2}}}
}

// example is the site of the chapter's examples.
func example() api.Site {
	return api.Site{
		Survey: api.Survey{
			Pit: api.Box{Max: api.Vec{X: 100, Y: 100, Z: 40}}, Open: [4]bool{true}, Beds: []api.Bed{{Name: "k", Z: 0}, {Name: "l", Z: 20}},
			Joints: []api.Joint{{Name: "j", Axis: api.AxisX, At: 50, Lo: 0, Hi: 40}},
		},
		Benches: []api.Bench{{Name: "low", Lo: 0, Hi: 20}, {Name: "high", Lo: 20, Hi: 40}},
		Blocks:  []api.Block{block("a", 50, 0, 20, 100, 100, 40), block("b", 50, 0, 0, 100, 100, 20), block("c", 0, 0, 0, 50, 100, 20)},
		Density: 2700,
	}
}

// free is a site whose blocks a, b and c can be freed in any order, and d behind b and c; e is above a and f never free.
func free() api.Site {
	return api.Site{
		Survey:  api.Survey{Pit: api.Box{Max: api.Vec{X: 60, Y: 10, Z: 20}}, Open: [4]bool{false, false, true, true}, Beds: []api.Bed{{Name: "k", Z: 0}, {Name: "l", Z: 10}}},
		Benches: []api.Bench{{Name: "low", Lo: 0, Hi: 10}, {Name: "high", Lo: 10, Hi: 20}},
		Blocks: []api.Block{
			block("a", 0, 0, 0, 10, 10, 10), block("b", 10, 0, 0, 20, 10, 10), block("c", 30, 0, 0, 40, 10, 10), block("d", 20, 1, 0, 30, 9, 10),
			block("e", 0, 0, 10, 10, 10, 20), block("f", 45, 1, 0, 50, 9, 10),
		},
		Density: 1,
	}
}

func refusal(block string, kind int, by string) extraction.Refusal {
	return extraction.Refusal{Block: block, Reason: support.Reason{Kind: kind, By: by}}
}

// P21.1
func TestCheck(t *testing.T) {
	for _, c := range []struct {
		s     api.Site
		order []string
		want  int
		e     api.Errno
	}{
		{example(), nil, 0, api.OK},
		{example(), []string{"a", "b"}, 2, api.OK},
		{example(), []string{"b", "a"}, 0, api.OK},
		{example(), []string{"a", "b", "c"}, 2, api.OK},
		{example(), []string{"a", "a", "b"}, 1, api.OK},
		{example(), []string{"a", "c", "c", "b"}, 1, api.OK},
		{example(), []string{"c", "d"}, 0, api.ErrUnknown},
		{example(), []string{""}, 0, api.ErrUnknown},
		{example(), make([]string, 257), 0, api.ErrTooMany},
		{example(), slices.Repeat([]string{"a"}, 256), 1, api.OK},
		{api.Site{}, make([]string, 257), 0, api.ErrInvalid},
		{free(), []string{"c", "b", "d", "e", "a"}, 5, api.OK},
		{free(), []string{"c", "d", "b"}, 1, api.OK},
		{free(), []string{"c", "b", "a"}, 2, api.OK},
	} {
		if got, e := extraction.Check(c.s, c.order); got != c.want || e != c.e {
			t.Errorf("Check(%v) = %d, %d, want %d", c.order, got, e, c.want)
		}
	}
}

// P21.1 to P21.3: the examples and another site.
func TestExamples(t *testing.T) {
	s := example()
	if got, e := extraction.Greatest(s); !slices.Equal(got, []string{"a", "b"}) || e != api.OK {
		t.Errorf("Greatest = %v, %d", got, e)
	}
	if got, e := extraction.Plan(s, "b"); !slices.Equal(got, []string{"a", "b"}) || e != api.OK {
		t.Errorf("Plan = %v, %d", got, e)
	}
	if got, e := extraction.Refuse(s); !slices.Equal(got, []extraction.Refusal{refusal("c", support.Held, "")}) || e != api.OK {
		t.Errorf("Refuse = %v, %d", got, e)
	}
	if got, e := extraction.Swap(s, []string{"a", "b"}, 0); got || e != api.OK {
		t.Errorf("Swap = %v, %d", got, e)
	}
	if got, e := extraction.Reach(s, []string{"a", "b"}); !slices.Equal(got, []int{1, 1}) || e != api.OK {
		t.Errorf("Reach = %v, %d", got, e)
	}
	s = free()
	if got, e := extraction.Greatest(s); !slices.Equal(got, []string{"b", "c", "d", "e", "a"}) || e != api.OK {
		t.Errorf("Greatest = %v, %d", got, e)
	}
	for goal, want := range map[string][]string{"a": {"e", "a"}, "b": {"b"}, "c": {"c"}, "d": {"b", "c", "d"}, "e": {"e"}} {
		if got, e := extraction.Plan(s, goal); !slices.Equal(got, want) || e != api.OK {
			t.Errorf("Plan(%q) = %v, %d", goal, got, e)
		}
	}
	for i, want := range []bool{true, false, true, false} {
		if got, e := extraction.Swap(s, []string{"b", "c", "d", "e", "a"}, i); got != want || e != api.OK {
			t.Errorf("Swap at %d = %v, %d", i, got, e)
		}
	}
	if got, e := extraction.Reach(s, []string{"e", "a", "b"}); !slices.Equal(got, []int{2, 1}) || e != api.OK {
		t.Errorf("Reach = %v, %d", got, e)
	}
	if got, e := extraction.Reach(s, nil); !slices.Equal(got, []int{0, 0}) || e != api.OK {
		t.Errorf("Reach of nothing = %v, %d", got, e)
	}
	if got, e := extraction.Refuse(s); !slices.Equal(got, []extraction.Refusal{refusal("f", support.Held, "")}) || e != api.OK {
		t.Errorf("Refuse = %v, %d", got, e)
	}
	s.Blocks = s.Blocks[:5]
	if got, e := extraction.Refuse(s); got != nil || e != api.ErrNone {
		t.Errorf("Refuse = %v, %d", got, e)
	}
}

// P1, P21.2
func TestErrors(t *testing.T) {
	bad := example()
	bad.Density = 0
	for _, c := range []struct {
		s     api.Site
		order []string
		i     int
		e     api.Errno
	}{
		{bad, make([]string, 257), -1, api.ErrRange},
		{example(), make([]string, 257), -1, api.ErrTooMany},
		{example(), []string{"c", "d"}, -1, api.ErrUnknown},
		{example(), []string{"b", "a"}, -1, api.ErrConflict},
		{example(), []string{"a", "a"}, 0, api.ErrConflict},
		{example(), []string{"a", "b"}, -1, api.ErrRange},
		{example(), []string{"a", "b"}, 1, api.ErrRange},
		{example(), []string{"a", "b"}, math.MaxInt, api.ErrRange},
		{example(), []string{"a", "b"}, math.MinInt, api.ErrRange},
		{example(), []string{"a"}, 0, api.ErrRange},
		{example(), nil, 0, api.ErrRange},
	} {
		if got, e := extraction.Swap(c.s, c.order, c.i); got || e != c.e {
			t.Errorf("Swap(%v, %d) = %v, %d, want %d", c.order, c.i, got, e, c.e)
		}
		if c.i != -1 || c.e == api.ErrRange && c.s.Density > 0 {
			continue
		}
		if got, e := extraction.Reach(c.s, c.order); got != nil || e != c.e {
			t.Errorf("Reach(%v) = %v, %d, want %d", c.order, got, e, c.e)
		}
	}
	for _, c := range []struct {
		s    api.Site
		goal string
		e    api.Errno
	}{
		{bad, "x", api.ErrRange}, {example(), "x", api.ErrUnknown}, {example(), "", api.ErrUnknown}, {example(), "c", api.ErrConflict},
	} {
		if got, e := extraction.Plan(c.s, c.goal); got != nil || e != c.e {
			t.Errorf("Plan(%q) = %v, %d", c.goal, got, e)
		}
	}
	if got, e := extraction.Greatest(bad); got != nil || e != api.ErrRange {
		t.Errorf("Greatest = %v, %d", got, e)
	}
	if got, e := extraction.Refuse(bad); got != nil || e != api.ErrRange {
		t.Errorf("Refuse = %v, %d", got, e)
	}
}

// P21.3
func TestProves(t *testing.T) {
	s := example()
	proof := []extraction.Refusal{refusal("c", support.Held, "")}
	for i, c := range []struct {
		goal  string
		freed []string
		list  []extraction.Refusal
		want  bool
	}{
		{"c", []string{"a", "b"}, proof, true},
		{"c", []string{"b", "a"}, proof, true},
		{"c", []string{"a", "b", "a"}, proof, false},
		{"c", []string{"a", "x", "b"}, proof, false},
		{"c", []string{"a", "b", "c"}, nil, false},
		{"a", []string{"a", "b"}, proof, false},
		{"x", []string{"a", "b"}, proof, false},
		{"", []string{"a", "b"}, proof, false},
		{"c", []string{"a", "b"}, nil, false},
		{"c", []string{"a", "b"}, append(proof, proof...), false},
		{"c", []string{"a", "b"}, []extraction.Refusal{refusal("b", support.Held, "")}, false},
		{"c", []string{"a", "b"}, []extraction.Refusal{refusal("c", support.Held, "a")}, false},
		{"c", []string{"a", "b"}, []extraction.Refusal{refusal("c", support.NoBed, "")}, false},
		{"c", []string{"a", "b"}, []extraction.Refusal{refusal("c", support.Possible, "")}, false},
		{"c", []string{"a"}, []extraction.Refusal{refusal("b", support.Possible, ""), refusal("c", support.Held, "")}, false},
		{"c", []string{"b"}, []extraction.Refusal{refusal("a", support.Possible, ""), refusal("c", support.Held, "")}, false},
		{"c", nil, []extraction.Refusal{refusal("a", support.Possible, ""), refusal("b", support.Covered, "a"), refusal("c", support.Held, "")}, false},
	} {
		if got := extraction.Proves(s, c.goal, c.freed, c.list); got != c.want {
			t.Errorf("Proves %d = %v", i, got)
		}
	}
	s.Density = 0
	if extraction.Proves(s, "c", []string{"a", "b"}, proof) {
		t.Error("Proves with a bad site")
	}
	s = example()
	s.Survey.Joints = nil
	two := []extraction.Refusal{refusal("a", support.Held, ""), refusal("b", support.Covered, "a"), refusal("c", support.Held, "")}
	if !extraction.Proves(s, "b", nil, two) || extraction.Proves(s, "b", nil, []extraction.Refusal{two[1], two[0], two[2]}) {
		t.Error("Proves in the order of the site only")
	}
	// A proof may free blocks that can never be freed: it is only stronger then.
	if !extraction.Proves(s, "a", []string{"b", "c"}, two[:1]) {
		t.Error("Proves with other blocks that are taken")
	}
}

func randomSite(r *rand.Rand) api.Site {
	s := api.Site{
		Survey:  api.Survey{Pit: api.Box{Max: api.Vec{X: 6, Y: 6, Z: 6}}, Open: [4]bool{r.Intn(2) > 0, r.Intn(2) > 0, r.Intn(2) > 0, true}, Beds: []api.Bed{{Name: "k", Z: 0}, {Name: "l", Z: 2}, {Name: "m", Z: 4}}},
		Benches: []api.Bench{{Name: "x", Lo: 0, Hi: 2}, {Name: "y", Lo: 2, Hi: 4}, {Name: "z", Lo: 4, Hi: 6}},
		Safety:  api.Safety{Batter: 500 * r.Intn(3)},
		Density: 1,
	}
	for i := range r.Intn(6) {
		lo := 2 * r.Intn(3)
		s.Survey.Joints = append(s.Survey.Joints, api.Joint{Name: fmt.Sprintf("j%d", i), Axis: r.Intn(2), At: 2 * r.Intn(4), Lo: lo, Hi: 6})
	}
	for i := range 20 {
		x, y, z := 2*r.Intn(3), 2*r.Intn(3), 2*r.Intn(3)
		s.Blocks = append(s.Blocks, block(fmt.Sprintf("b%02d", i), x, y, z, min(6, x+2*(1+r.Intn(2))), min(6, y+2*(1+r.Intn(2))), z+2))
		if bench.Check(s) != api.OK {
			s.Blocks = s.Blocks[:len(s.Blocks)-1]
		}
	}
	return s
}

func isPossible(s api.Site, order []string) bool {
	for i, name := range order {
		if r, e := support.Why(s, order[:i], name); e != api.OK || r.Kind != support.Possible {
			return false
		}
	}
	return true
}

// P21.1 to P21.5
func TestAgainstDefinitions(t *testing.T) {
	r := rand.New(rand.NewSource(1))
	for range 150 {
		s := randomSite(r)
		var want []string
		for front, _ := support.Frontier(s, nil); len(front) > 0; front, _ = support.Frontier(s, want) {
			want = append(want, front[0])
		}
		got, e := extraction.Greatest(s)
		if !slices.Equal(got, want) || e != api.OK {
			t.Fatalf("%v: Greatest = %v, %d, want %v", s, got, e, want)
		}
		for _, b := range s.Blocks {
			checkPlan(t, s, want, b.Name)
		}
		checkRefusals(t, s, want)
		checkRun(t, r, s, want)
	}
}

func checkPlan(t *testing.T, s api.Site, greatest []string, goal string) {
	t.Helper()
	got, e := extraction.Plan(s, goal)
	end := slices.Index(greatest, goal)
	if end < 0 {
		if got != nil || e != api.ErrConflict {
			t.Fatalf("%v: Plan(%q) = %v, %d", s, goal, got, e)
		}
		return
	}
	want := slices.Clone(greatest[:end+1])
	for i := end - 1; i >= 0; i-- {
		if shorter := slices.Delete(slices.Clone(want), i, i+1); isPossible(s, shorter) {
			want = shorter
		}
	}
	if !slices.Equal(got, want) || e != api.OK {
		t.Fatalf("%v: Plan(%q) = %v, %d, want %v", s, goal, got, e, want)
	}
	for i := range len(got) - 1 {
		if isPossible(s, slices.Delete(slices.Clone(got), i, i+1)) {
			t.Fatalf("%v: Plan(%q) = %v does not need %q", s, goal, got, got[i])
		}
	}
}

func checkRefusals(t *testing.T, s api.Site, greatest []string) {
	t.Helper()
	var want []extraction.Refusal
	for _, b := range s.Blocks {
		if !slices.Contains(greatest, b.Name) {
			reason, _ := support.Why(s, greatest, b.Name)
			want = append(want, extraction.Refusal{Block: b.Name, Reason: reason})
		}
	}
	got, e := extraction.Refuse(s)
	if !slices.Equal(got, want) || (e == api.OK) != (len(want) > 0) || len(want) == 0 && e != api.ErrNone {
		t.Fatalf("%v: Refuse = %v, %d, want %v", s, got, e, want)
	}
	for _, b := range s.Blocks {
		if extraction.Proves(s, b.Name, greatest, got) == slices.Contains(greatest, b.Name) {
			t.Fatalf("%v: Proves of %q", s, b.Name)
		}
	}
}

// checkRun frees blocks at random: all of the greatest order, and safely at every time.
func checkRun(t *testing.T, r *rand.Rand, s api.Site, greatest []string) {
	t.Helper()
	var order []string
	for {
		front, _ := support.Frontier(s, order)
		if len(front) == 0 {
			break
		}
		next := front[r.Intn(len(front))]
		carried, _ := support.Carries(s.Blocks, next)
		for _, name := range carried {
			if !slices.Contains(order, name) {
				t.Fatalf("%v: %q stands on %q behind %v", s, name, next, order)
			}
		}
		order = append(order, next)
		for _, a := range s.Blocks {
			for _, b := range s.Blocks {
				if slices.Contains(order, a.Name) && !slices.Contains(order, b.Name) && !support.Clear(s.Safety, a.Box, b.Box) {
					t.Fatalf("%v: %q is not clear of %q behind %v", s, b.Name, a.Name, order)
				}
			}
		}
	}
	if !slices.Equal(slices.Sorted(slices.Values(order)), slices.Sorted(slices.Values(greatest))) {
		t.Fatalf("%v: the run %v has not the blocks of %v", s, order, greatest)
	}
	checkOrder(t, r, s, order)
}

func checkOrder(t *testing.T, r *rand.Rand, s api.Site, order []string) {
	t.Helper()
	if n, e := extraction.Check(s, order); n != len(order) || e != api.OK {
		t.Fatalf("%v: Check(%v) = %d, %d", s, order, n, e)
	}
	for i := range len(order) - 1 {
		swapped := slices.Clone(order)
		swapped[i], swapped[i+1] = order[i+1], order[i]
		if got, e := extraction.Swap(s, order, i); got != isPossible(s, swapped) || e != api.OK {
			t.Fatalf("%v: Swap(%v, %d) = %v, %d", s, order, i, got, e)
		}
	}
	part := order[:r.Intn(len(order)+1)]
	want := make([]int, len(s.Benches))
	for _, name := range part {
		level, _ := bench.Level(s, name)
		want[level]++
	}
	if got, e := extraction.Reach(s, part); !slices.Equal(got, want) || e != api.OK {
		t.Fatalf("%v: Reach(%v) = %v, %d", s, part, got, e)
	}
	mixed := slices.Clone(order)
	r.Shuffle(len(mixed), func(i, k int) { mixed[i], mixed[k] = mixed[k], mixed[i] })
	first := 0
	for first < len(mixed) && isPossible(s, mixed[:first+1]) {
		first++
	}
	if n, e := extraction.Check(s, mixed); n != first || e != api.OK {
		t.Fatalf("%v: Check(%v) = %d, %d, want %d", s, mixed, n, e, first)
	}
}

// P1: as many blocks as are allowed.
func TestManyBlocks(t *testing.T) {
	s := api.Site{Survey: api.Survey{Pit: api.Box{Max: api.Vec{X: 256, Y: 1, Z: 1}}, Open: [4]bool{false, true, true}, Beds: []api.Bed{{Name: "k", Z: 0}}}, Benches: []api.Bench{{Name: "x", Lo: 0, Hi: 1}}, Density: 1}
	for i := range 256 {
		s.Blocks = append(s.Blocks, block(fmt.Sprintf("b%03d", 255-i), 255-i, 0, 0, 256-i, 1, 1))
	}
	slices.Reverse(s.Blocks)
	if got, e := extraction.Plan(s, "b255"); len(got) != 256 || e != api.OK {
		t.Errorf("Plan = %v, %d", got, e)
	}
	if got, e := extraction.Refuse(s); got != nil || e != api.ErrNone {
		t.Errorf("Refuse = %v, %d", got, e)
	}
}
