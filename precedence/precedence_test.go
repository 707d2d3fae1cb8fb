package precedence_test

import (
	"math"
	"math/rand"
	"slices"
	"testing"

	"gangsaw/api"
	"gangsaw/precedence"
)

func graph(count int, things ...int) precedence.Graph {
	g := precedence.Graph{Count: count}
	for i := 0; i < len(things); i += 2 {
		g.Edges = append(g.Edges, [2]int{things[i], things[i+1]})
	}
	return g
}

// example is the graph of the chapter's first example, looped that of the second one.
func example() precedence.Graph { return graph(4, 0, 2, 0, 3, 1, 2, 2, 3) }

func looped() precedence.Graph { return graph(4, 0, 2, 0, 3, 1, 2, 2, 3, 3, 1) }

type refusal struct {
	g precedence.Graph
	e api.Errno
}

func refusals() []refusal {
	return []refusal{
		{graph(257, -1, 0), api.ErrTooMany},
		{graph(math.MaxInt), api.ErrTooMany},
		{graph(-1), api.ErrRange},
		{graph(math.MinInt, 0, 1), api.ErrRange},
		{graph(0, 0, 0), api.ErrRange},
		{graph(3, 1, 2, 0, 1, 0, 3), api.ErrRange},
		{graph(3, 1, 2, 0, 1, 3, 0), api.ErrRange},
		{graph(3, 1, 2, 0, 1, -1, 0), api.ErrRange},
		{graph(3, 1, 2, 0, 1, 0, -1), api.ErrRange},
		{graph(3, math.MaxInt, math.MinInt), api.ErrRange},
		{graph(3, 0, 1, 0, 1), api.ErrDuplicate},
		{graph(3, 0, 2, 0, 1), api.ErrDuplicate},
		{graph(3, 1, 0, 0, 1), api.ErrDuplicate},
		{graph(3, 0, 1, 1, 2, 1, 2), api.ErrDuplicate},
	}
}

// full has all edges that lead from a lesser thing to a greater one.
func full(count int) precedence.Graph {
	g := precedence.Graph{Count: count}
	for i := range count {
		for k := i + 1; k < count; k++ {
			g.Edges = append(g.Edges, [2]int{i, k})
		}
	}
	return g
}

// P20.1
func TestCheck(t *testing.T) {
	for i, g := range []precedence.Graph{{}, graph(1), graph(1, 0, 0), example(), looped(), graph(256, 0, 255, 255, 0), full(256)} {
		if e := precedence.Check(g); e != api.OK {
			t.Errorf("Check of graph %d: %d", i, e)
		}
	}
	for i, c := range refusals() {
		if e := precedence.Check(c.g); e != c.e {
			t.Errorf("Check of refusal %d: %d, want %d", i, e, c.e)
		}
	}
}

// P20.1 to P20.3: the examples.
func TestExamples(t *testing.T) {
	g := example()
	if got, e := precedence.Order(g); !slices.Equal(got, []int{0, 1, 2, 3}) || e != api.OK {
		t.Errorf("Order = %v, %d", got, e)
	}
	if got, e := precedence.Needs(g, 3); !slices.Equal(got, []int{0, 1, 2}) || e != api.OK {
		t.Errorf("Needs = %v, %d", got, e)
	}
	if got, e := precedence.Levels(g); !slices.Equal(got, []int{0, 0, 1, 2}) || e != api.OK {
		t.Errorf("Levels = %v, %d", got, e)
	}
	if got, e := precedence.Reduce(g); !slices.Equal(got.Edges, graph(4, 0, 2, 1, 2, 2, 3).Edges) || got.Count != 4 || e != api.OK {
		t.Errorf("Reduce = %v, %d", got, e)
	}
	if got, e := precedence.Cycle(g); got != nil || e != api.ErrNone {
		t.Errorf("Cycle = %v, %d", got, e)
	}
	if got, e := precedence.Cycle(looped()); !slices.Equal(got, []int{1, 2, 3}) || e != api.OK {
		t.Errorf("Cycle = %v, %d", got, e)
	}
	if got, e := precedence.Needs(looped(), 1); !slices.Equal(got, []int{0, 1, 2, 3}) || e != api.OK {
		t.Errorf("Needs on a cycle = %v, %d", got, e)
	}
}

// P20.2
func TestCycle(t *testing.T) {
	for i, c := range []struct {
		g    precedence.Graph
		want []int
	}{
		{graph(3, 0, 1, 1, 0, 2, 2), []int{2}},
		{graph(3, 0, 0, 0, 1, 1, 0, 2, 2), []int{0}},
		{graph(4, 0, 1, 1, 2, 2, 0, 2, 3, 3, 2), []int{2, 3}},
		{graph(5, 0, 2, 0, 3, 1, 0, 2, 1, 3, 1), []int{0, 2, 1}},
		{graph(5, 0, 4, 1, 3, 3, 0, 4, 1), []int{0, 4, 1, 3}},
		{graph(6, 1, 5, 2, 3, 3, 2, 5, 1), []int{1, 5}},
		{graph(6, 0, 1, 0, 2, 1, 3, 2, 3, 3, 4, 4, 0), []int{0, 1, 3, 4}},
		{graph(6, 0, 1, 0, 2, 1, 4, 2, 3, 3, 0, 4, 0), []int{0, 1, 4}},
		{graph(0), nil},
	} {
		want := api.OK
		if c.want == nil {
			want = api.ErrNone
		}
		if got, e := precedence.Cycle(c.g); !slices.Equal(got, c.want) || e != want {
			t.Errorf("Cycle of graph %d: %v, %d", i, got, e)
		}
	}
}

func randomGraph(r *rand.Rand, count int, loops bool) precedence.Graph {
	g := precedence.Graph{Count: count}
	name := r.Perm(count)
	chance := 1 + r.Intn(9)
	for i := range count {
		for k := range count {
			if r.Intn(10) < chance && (name[i] < name[k] || loops && r.Intn(4) == 0) {
				g.Edges = append(g.Edges, [2]int{i, k})
			}
		}
	}
	return g
}

func permutations(count int) [][]int {
	var all [][]int
	var extend func(list []int)
	extend = func(list []int) {
		if len(list) == count {
			all = append(all, slices.Clone(list))
		}
		for i := range count {
			if !slices.Contains(list, i) {
				extend(append(list, i))
			}
		}
	}
	extend(nil)
	return all
}

func isOrder(g precedence.Graph, list []int) bool {
	return !slices.ContainsFunc(g.Edges, func(x [2]int) bool { return slices.Index(list, x[0]) >= slices.Index(list, x[1]) })
}

// cycles returns all cycles with their least thing in the first place.
func cycles(g precedence.Graph) [][]int {
	var all [][]int
	var extend func(list []int)
	extend = func(list []int) {
		for _, x := range g.Edges {
			switch {
			case x[0] != list[len(list)-1] || x[1] < list[0]:
			case x[1] == list[0]:
				all = append(all, slices.Clone(list))
			case !slices.Contains(list, x[1]):
				extend(append(slices.Clone(list), x[1]))
			}
		}
	}
	for i := range g.Count {
		extend([]int{i})
	}
	return all
}

// closure tells which things have to come before which, by repeated joining.
func closure(g precedence.Graph) [][]bool {
	c := make([][]bool, g.Count)
	for i := range c {
		c[i] = make([]bool, g.Count)
	}
	for _, x := range g.Edges {
		c[x[0]][x[1]] = true
	}
	for k := range g.Count {
		for i := range g.Count {
			for j := range g.Count {
				c[i][j] = c[i][j] || c[i][k] && c[k][j]
			}
		}
	}
	return c
}

// P20.1 to P20.3, P20.5: small graphs against all lists, cycles and chains.
func TestAgainstDefinitions(t *testing.T) {
	r := rand.New(rand.NewSource(1))
	all := [][][]int{permutations(0), permutations(1), permutations(2), permutations(3), permutations(4), permutations(5)}
	for range 1500 {
		g := randomGraph(r, r.Intn(6), r.Intn(2) == 0)
		var orders [][]int
		for _, list := range all[g.Count] {
			is := isOrder(g, list)
			if is {
				orders = append(orders, list)
			}
			if precedence.Is(g, list) != is {
				t.Fatalf("%v: Is(%v) is not %v", g, list, is)
			}
		}
		got, e := precedence.Order(g)
		if len(orders) == 0 && (got != nil || e != api.ErrCycle) || len(orders) > 0 && (!slices.Equal(got, orders[0]) || e != api.OK) {
			t.Fatalf("%v: Order = %v, %d", g, got, e)
		}
		checkCycle(t, g, len(orders) == 0)
		before := closure(g)
		for i := range g.Count {
			var want []int
			for k := range g.Count {
				if before[k][i] {
					want = append(want, k)
				}
			}
			if got, e := precedence.Needs(g, i); !slices.Equal(got, want) || e != api.OK {
				t.Fatalf("%v: Needs(%d) = %v, %d", g, i, got, e)
			}
		}
		checkReduced(t, g, orders, all[g.Count])
		checkLevels(t, g, len(orders) == 0)
	}
}

func checkCycle(t *testing.T, g precedence.Graph, exists bool) {
	t.Helper()
	list := cycles(g)
	slices.SortFunc(list, func(a, b []int) int {
		if len(a) != len(b) {
			return len(a) - len(b)
		}
		return slices.Compare(a, b)
	})
	got, e := precedence.Cycle(g)
	if exists != (len(list) > 0) || !exists && (got != nil || e != api.ErrNone) || exists && (!slices.Equal(got, list[0]) || e != api.OK) {
		t.Fatalf("%v: Cycle = %v, %d, want the first of %v", g, got, e, list)
	}
}

// checkReduced checks that the reduced graph has the same orders, and each of its edges forbids one.
func checkReduced(t *testing.T, g precedence.Graph, orders, lists [][]int) {
	t.Helper()
	got, e := precedence.Reduce(g)
	if len(orders) == 0 {
		if got.Count != 0 || got.Edges != nil || e != api.ErrCycle {
			t.Fatalf("%v: Reduce = %v, %d", g, got, e)
		}
		return
	}
	same := func(g precedence.Graph) bool {
		n := 0
		for _, list := range lists {
			if isOrder(g, list) {
				n++
			}
		}
		return n == len(orders)
	}
	if e != api.OK || got.Count != g.Count || precedence.Check(got) != api.OK || !same(got) {
		t.Fatalf("%v: Reduce = %v, %d", g, got, e)
	}
	for i, x := range got.Edges {
		fewer := precedence.Graph{Count: g.Count, Edges: slices.Delete(slices.Clone(got.Edges), i, i+1)}
		if !slices.Contains(g.Edges, x) || same(fewer) {
			t.Fatalf("%v: Reduce = %v needs no %v", g, got, x)
		}
	}
}

func checkLevels(t *testing.T, g precedence.Graph, cyclic bool) {
	t.Helper()
	got, e := precedence.Levels(g)
	if cyclic {
		if got != nil || e != api.ErrCycle {
			t.Fatalf("%v: Levels = %v, %d", g, got, e)
		}
		return
	}
	want := make([]int, g.Count)
	for range g.Count {
		for _, x := range g.Edges {
			want[x[1]] = max(want[x[1]], want[x[0]]+1)
		}
	}
	if !slices.Equal(got, want) || e != api.OK {
		t.Fatalf("%v: Levels = %v, %d, want %v", g, got, e, want)
	}
}

// P20.1: lists of other numbers are no orders.
func TestIs(t *testing.T) {
	g := example()
	for _, list := range [][]int{nil, {0, 1, 2}, {0, 1, 2, 3, 3}, {0, 1, 2, 2}, {0, 1, 2, 4}, {-1, 0, 1, 2}, {0, 1, 2, 3, 4}, {0, 1, 3, 2}, {math.MinInt, 0, 1, math.MaxInt}} {
		if precedence.Is(g, list) || !slices.Equal(list, []int{0, 1, 3, 2}) && precedence.Is(graph(4), list) {
			t.Errorf("Is(%v)", list)
		}
	}
	if !precedence.Is(g, []int{1, 0, 2, 3}) || !precedence.Is(graph(0), nil) || precedence.Is(graph(1, 0, 0), []int{0}) {
		t.Error("Is of other graphs")
	}
	for i, c := range refusals() {
		if precedence.Is(c.g, []int{0, 1, 2}) || precedence.Is(c.g, nil) {
			t.Errorf("Is of refusal %d", i)
		}
	}
}

// P1: each error, and which one comes first.
func TestErrors(t *testing.T) {
	for i, c := range refusals() {
		order, e1 := precedence.Order(c.g)
		cycle, e2 := precedence.Cycle(c.g)
		needs, e3 := precedence.Needs(c.g, -1)
		reduced, e4 := precedence.Reduce(c.g)
		levels, e5 := precedence.Levels(c.g)
		for k, e := range []api.Errno{e1, e2, e3, e4, e5} {
			if e != c.e {
				t.Errorf("refusal %d, function %d: %d, want %d", i, k, e, c.e)
			}
		}
		if order != nil || cycle != nil || needs != nil || reduced.Count != 0 || reduced.Edges != nil || levels != nil {
			t.Errorf("refusal %d: %v, %v, %v, %v, %v", i, order, cycle, needs, reduced, levels)
		}
	}
	for _, thing := range []int{-1, 4, math.MaxInt, math.MinInt} {
		if got, e := precedence.Needs(example(), thing); got != nil || e != api.ErrRange {
			t.Errorf("Needs(%d) = %v, %d", thing, got, e)
		}
	}
	if got, e := precedence.Needs(graph(0), 0); got != nil || e != api.ErrRange {
		t.Errorf("Needs of nothing: %v, %d", got, e)
	}
}

// P1, P20.2, P20.3: as many things as are allowed.
func TestCrowd(t *testing.T) {
	g := full(256)
	reduced, e := precedence.Reduce(g)
	if len(reduced.Edges) != 255 || e != api.OK {
		t.Errorf("Reduce leaves %d edges, %d", len(reduced.Edges), e)
	}
	levels, e := precedence.Levels(g)
	if levels[255] != 255 || e != api.OK {
		t.Errorf("Levels = %v, %d", levels, e)
	}
	ring := precedence.Graph{Count: 256}
	for i := range 256 {
		ring.Edges = append(ring.Edges, [2]int{i, (i + 1) % 256})
	}
	if cycle, e := precedence.Cycle(ring); len(cycle) != 256 || cycle[255] != 255 || e != api.OK {
		t.Errorf("Cycle = %v, %d", cycle, e)
	}
}
