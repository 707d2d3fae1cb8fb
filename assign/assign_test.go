package assign_test

import (
	"math"
	"math/rand"
	"slices"
	"testing"

	"gangsaw/api"
	"gangsaw/assign"
)

func graph(left, right int, edges ...[3]int) assign.Graph {
	g := assign.Graph{Left: left, Right: right}
	for _, e := range edges {
		g.Edges = append(g.Edges, api.Edge{Left: e[0], Right: e[1], Cost: int64(e[2])})
	}
	return g
}

// example is the graph of the chapter's examples.
func example() assign.Graph { return graph(2, 2, [3]int{0, 0, 5}, [3]int{0, 1, 1}, [3]int{1, 1, 2}) }

// P38.2 to P38.5: the examples.
func TestExamples(t *testing.T) {
	g := example()
	if m, e := assign.Greatest(g); !slices.Equal(m, []int{0, 1}) || e != api.OK {
		t.Errorf("Greatest = %v, %d", m, e)
	}
	if l, r, e := assign.Cover(g); !slices.Equal(l, []int{0, 1}) || len(r) != 0 || e != api.OK {
		t.Errorf("Cover = %v, %v, %d", l, r, e)
	}
	if m, n, e := assign.Cheapest(g); !slices.Equal(m, []int{0, 1}) || n != 7 || e != api.OK {
		t.Errorf("Cheapest = %v, %d, %d", m, n, e)
	}
	if n, k, e := assign.CheckPrices(g, []int64{5, 6}, []int64{0, 4}); n != 7 || k != 3 || e != api.OK {
		t.Errorf("CheckPrices = %d, %d, %d", n, k, e)
	}
	if m, e := assign.Change(g, []int{1, -1}, 1, nil); !slices.Equal(m, []int{0, 1}) || e != api.OK {
		t.Errorf("Change = %v, %d", m, e)
	}
	if m, e := assign.Change(g, []int{1, -1}, 1, []int{0}); m != nil || e != api.ErrNone {
		t.Errorf("Change = %v, %d", m, e)
	}
	g = graph(2, 2, [3]int{0, 0, 1}, [3]int{1, 0, 1})
	if m, e := assign.Greatest(g); !slices.Equal(m, []int{0, -1}) || e != api.OK {
		t.Errorf("Greatest = %v, %d", m, e)
	}
	if l, r, e := assign.Cover(g); len(l) != 0 || !slices.Equal(r, []int{0}) || e != api.OK {
		t.Errorf("Cover = %v, %v, %d", l, r, e)
	}
	if l, e := assign.Hall(g); !slices.Equal(l, []int{0, 1}) || e != api.OK {
		t.Errorf("Hall = %v, %d", l, e)
	}
	if _, _, e := assign.Cheapest(g); e != api.ErrNone {
		t.Errorf("Cheapest = %d", e)
	}
	if _, _, e := assign.Prices(g); e != api.ErrNone {
		t.Errorf("Prices = %d", e)
	}
	if l, e := assign.Hall(example()); l != nil || e != api.ErrNone {
		t.Errorf("Hall = %v, %d", l, e)
	}
}

// P38.1, P1: each error, and which one comes first.
func TestGraphErrors(t *testing.T) {
	bad := [3]int{9, 9, -1}
	for i, c := range []struct {
		g assign.Graph
		e api.Errno
	}{
		{graph(-1, 65, bad), api.ErrInvalid}, {graph(65, -1, bad), api.ErrInvalid}, {graph(math.MinInt, 1), api.ErrInvalid}, {graph(65, 1, bad), api.ErrTooMany}, {graph(1, 65, bad), api.ErrTooMany}, {graph(math.MaxInt, 1), api.ErrTooMany},
		{graph(2, 2, [3]int{1, 1, 0}, [3]int{1, 1, 0}, [3]int{2, 0, 0}), api.ErrRange}, {graph(2, 2, [3]int{0, 2, 0}), api.ErrRange}, {graph(2, 2, [3]int{-1, 0, 0}), api.ErrRange}, {graph(2, 2, [3]int{0, -1, 0}), api.ErrRange},
		{graph(2, 2, [3]int{0, 0, -1}), api.ErrRange}, {graph(2, 2, [3]int{0, 0, assign.MaxCost + 1}), api.ErrRange}, {graph(0, 0, [3]int{0, 0, 0}), api.ErrRange},
		{graph(2, 2, [3]int{1, 0, 0}, [3]int{0, 1, 0}), api.ErrDuplicate}, {graph(2, 2, [3]int{1, 1, 0}, [3]int{1, 0, 0}), api.ErrDuplicate}, {graph(2, 2, [3]int{1, 1, 0}, [3]int{1, 1, 5}), api.ErrDuplicate},
	} {
		m1, e1 := assign.Greatest(c.g)
		l, r, e2 := assign.Cover(c.g)
		n3, e3 := assign.CheckMatching(c.g, []int{-9})
		n4, e4 := assign.CheckCover(c.g, []int{-9}, nil)
		m2, n5, e5 := assign.Cheapest(c.g)
		p, q, e6 := assign.Prices(c.g)
		n7, k, e7 := assign.CheckPrices(c.g, nil, []int64{-9})
		m3, e8 := assign.Hall(c.g)
		m4, e9 := assign.Change(c.g, nil, -1, nil)
		for k, e := range []api.Errno{assign.Check(c.g), e1, e2, e3, e4, e5, e6, e7, e8, e9} {
			if e != c.e {
				t.Errorf("refusal %d, function %d: %d, want %d", i, k, e, c.e)
			}
		}
		if len(m1)+len(m2)+len(m3)+len(m4)+len(l)+len(r)+len(p)+len(q)+n3+n4+int(n5)+int(n7)+k != 0 {
			t.Errorf("refusal %d has results", i)
		}
	}
	if e := assign.Check(graph(64, 64, [3]int{63, 63, assign.MaxCost})); e != api.OK {
		t.Errorf("Check = %d", e)
	}
}

// P38.1
func TestChecks(t *testing.T) {
	g := example()
	for i, c := range []struct {
		match []int
		n     int
		e     api.Errno
	}{
		{[]int{0, 1}, 2, api.OK}, {[]int{1, -1}, 1, api.OK}, {[]int{-1, -1}, 0, api.OK}, {nil, 0, api.ErrInvalid}, {[]int{0}, 0, api.ErrInvalid}, {[]int{0, 1, 1}, 0, api.ErrInvalid}, {[]int{0, 2}, 0, api.ErrInvalid}, {[]int{0, -2}, 0, api.ErrInvalid},
		{[]int{0, 0}, 0, api.ErrNone}, {[]int{-1, 0}, 0, api.ErrNone}, {[]int{1, 1}, 0, api.ErrDuplicate}, {[]int{math.MaxInt, math.MinInt}, 0, api.ErrInvalid},
	} {
		if n, e := assign.CheckMatching(g, c.match); n != c.n || e != c.e {
			t.Errorf("CheckMatching %d = %d, %d", i, n, e)
		}
		if c.e != api.OK {
			if m, e := assign.Change(g, c.match, 9, []int{9}); m != nil || e != c.e {
				t.Errorf("Change %d = %v, %d", i, m, e)
			}
		}
	}
	for i, c := range []struct {
		left, right []int
		n           int
		e           api.Errno
	}{
		{[]int{0, 1}, nil, 3, api.OK}, {[]int{0}, []int{1}, 3, api.OK}, {nil, []int{0, 1}, 3, api.OK}, {[]int{0}, nil, 2, api.ErrConflict}, {nil, []int{0}, 1, api.ErrConflict}, {nil, nil, 0, api.ErrConflict}, {[]int{1}, []int{0}, 1, api.ErrConflict},
		{[]int{1, 0}, nil, 0, api.ErrInvalid}, {[]int{0, 0}, nil, 0, api.ErrInvalid}, {[]int{2}, nil, 0, api.ErrInvalid}, {[]int{-1}, nil, 0, api.ErrInvalid}, {nil, []int{2}, 0, api.ErrInvalid}, {nil, []int{1, 1}, 0, api.ErrInvalid}, {nil, []int{math.MinInt}, 0, api.ErrInvalid},
	} {
		if n, e := assign.CheckCover(g, c.left, c.right); n != c.n || e != c.e {
			t.Errorf("CheckCover %d = %d, %d", i, n, e)
		}
	}
	for i, c := range []struct {
		left, right []int64
		bound       int64
		n           int
		e           api.Errno
	}{
		{[]int64{5, 6}, []int64{0, 4}, 7, 3, api.OK}, {[]int64{-5, -6}, []int64{0, 0}, -11, 3, api.OK}, {[]int64{6, 6}, []int64{0, 4}, 0, 0, api.ErrConflict}, {[]int64{5, 6}, []int64{0, 3}, 0, 1, api.ErrConflict}, {[]int64{5, 7}, []int64{0, 4}, 0, 2, api.ErrConflict},
		{[]int64{-assign.MaxPrice, 0}, []int64{assign.MaxPrice, 0}, -2 * assign.MaxPrice, 3, api.OK}, {[]int64{-assign.MaxPrice - 1, 0}, []int64{0, 0}, 0, 0, api.ErrInvalid}, {[]int64{assign.MaxPrice + 1, 0}, []int64{0, 0}, 0, 0, api.ErrInvalid},
		{[]int64{0, 0}, []int64{-1, 0}, 0, 0, api.ErrInvalid}, {[]int64{0, 0}, []int64{0, assign.MaxPrice + 1}, 0, 0, api.ErrInvalid}, {[]int64{9}, []int64{0, 0}, 0, 0, api.ErrInvalid}, {[]int64{9, 9}, []int64{0}, 0, 0, api.ErrInvalid}, {[]int64{9, 9, 9}, []int64{0, 0}, 0, 0, api.ErrInvalid}, {[]int64{9, math.MinInt64}, []int64{0, 0}, 0, 0, api.ErrInvalid},
	} {
		if bound, n, e := assign.CheckPrices(g, c.left, c.right); bound != c.bound || n != c.n || e != c.e {
			t.Errorf("CheckPrices %d = %d, %d, %d", i, bound, n, e)
		}
	}
	for i, c := range []struct {
		match []int
		add   int
		fixed []int
		e     api.Errno
	}{
		{[]int{1, -1}, -1, nil, api.ErrInvalid}, {[]int{1, -1}, 2, nil, api.ErrInvalid}, {[]int{1, -1}, 0, []int{1, 1}, api.ErrInvalid}, {[]int{1, -1}, 0, []int{2}, api.ErrInvalid}, {[]int{1, -1}, 0, []int{-1}, api.ErrInvalid}, {[]int{1, -1}, 0, []int{1, 0}, api.ErrInvalid},
		{[]int{1, -1}, 0, []int{0, 1}, api.ErrState}, {[]int{1, -1}, 1, []int{1}, api.ErrNone},
	} {
		if m, e := assign.Change(g, c.match, c.add, c.fixed); m != nil || e != c.e {
			t.Errorf("Change %d = %v, %d", i, m, e)
		}
	}
}

func random(r *rand.Rand, side, density int) assign.Graph {
	g := assign.Graph{Left: r.Intn(side + 1), Right: r.Intn(side + 1)}
	for l := range g.Left {
		for x := range g.Right {
			if r.Intn(100) < density {
				g.Edges = append(g.Edges, api.Edge{Left: l, Right: x, Cost: int64(r.Intn(5))})
			}
		}
	}
	return g
}

// matchings visits all matchings of a graph, from the least list on, with their costs.
func matchings(g assign.Graph, visit func(match []int, cost int64)) {
	match := make([]int, g.Left)
	var try func(l int, cost int64)
	try = func(l int, cost int64) {
		if l == g.Left {
			visit(match, cost)
			return
		}
		for _, e := range g.Edges {
			if e.Left == l && !slices.Contains(match[:l], e.Right) {
				match[l] = e.Right
				try(l+1, cost+e.Cost)
			}
		}
		match[l] = -1
		try(l+1, cost)
	}
	try(0, 0)
}

func size(match []int) int {
	n := 0
	for _, r := range match {
		if r >= 0 {
			n++
		}
	}
	return n
}

// P38.2 to P38.6: by trial of all matchings.
func TestByTrial(t *testing.T) {
	r := rand.New(rand.NewSource(1))
	for range 3000 {
		g := random(r, 5, 20+r.Intn(80))
		var most, cheapest []int
		least := int64(-1)
		matchings(g, func(match []int, cost int64) {
			if most == nil || size(match) > size(most) {
				most = slices.Clone(match)
			}
			if size(match) == g.Left && (least < 0 || cost < least) {
				cheapest, least = slices.Clone(match), cost
			}
		})
		got, e := assign.Greatest(g)
		if !slices.Equal(got, most) || e != api.OK {
			t.Fatalf("Greatest(%v) = %v, %d, want %v", g, got, e, most)
		}
		checkCheapest(t, g, cheapest, least)
		checkCover(t, g, size(most))
		checkChange(t, r, g)
	}
}

func checkCheapest(t *testing.T, g assign.Graph, want []int, least int64) {
	got, cost, e := assign.Cheapest(g)
	left, right, f := assign.Prices(g)
	if least < 0 {
		if got != nil || cost != 0 || left != nil || right != nil || e != api.ErrNone || f != api.ErrNone {
			t.Fatalf("Cheapest(%v) = %v, %d, %d", g, got, cost, e)
		}
		return
	}
	bound, _, h := assign.CheckPrices(g, left, right)
	if !slices.Equal(got, want) || cost != least || e != api.OK || f != api.OK || h != api.OK || bound != least {
		t.Fatalf("Cheapest(%v) = %v, %d, %d, want %v, %d; prices %v, %v", g, got, cost, e, want, least, left, right)
	}
}

func checkCover(t *testing.T, g assign.Graph, most int) {
	left, right, e := assign.Cover(g)
	if _, f := assign.CheckCover(g, left, right); e != api.OK || f != api.OK || len(left)+len(right) != most {
		t.Fatalf("Cover(%v) = %v, %v, %d", g, left, right, e)
	}
	// Of all covers with as few nodes, none has more left nodes.
	for bits := range 1 << g.Left {
		var l, x []int
		for i := range g.Left {
			if bits>>i&1 == 1 {
				l = append(l, i)
			}
		}
		for _, e := range g.Edges {
			if !slices.Contains(l, e.Left) {
				x = append(x, e.Right)
			}
		}
		slices.Sort(x)
		x = slices.Compact(x)
		if len(l)+len(x) == most && (len(l) > len(left) || len(l) == len(left) && !slices.Equal(l, left)) {
			t.Fatalf("Cover(%v) = %v, %v, but there is %v, %v", g, left, right, l, x)
		}
	}
	hall, e := assign.Hall(g)
	if most == g.Left {
		if hall != nil || e != api.ErrNone {
			t.Fatalf("Hall(%v) = %v, %d", g, hall, e)
		}
		return
	}
	if e != api.OK || len(hall)+len(left) != g.Left || len(right) >= len(hall) {
		t.Fatalf("Hall(%v) = %v, %d", g, hall, e)
	}
	for _, l := range hall {
		if slices.Contains(left, l) {
			t.Fatalf("Hall(%v) = %v, the cover has %v", g, hall, left)
		}
	}
}

func checkChange(t *testing.T, r *rand.Rand, g assign.Graph) {
	var some []int
	matchings(g, func(match []int, _ int64) {
		if some == nil || r.Intn(5) == 0 {
			some = slices.Clone(match)
		}
	})
	add := slices.Index(some, -1)
	if add < 0 {
		return
	}
	var fixed []int
	for l := range some {
		if l != add && r.Intn(4) == 0 {
			fixed = append(fixed, l)
		}
	}
	var want []int
	fewest := math.MaxInt
	matchings(g, func(match []int, _ int64) {
		changed := 0
		for l := range match {
			if (match[l] >= 0) != (some[l] >= 0 || l == add) || slices.Contains(fixed, l) && match[l] != some[l] {
				return
			}
			if match[l] != some[l] {
				changed++
			}
		}
		if changed < fewest {
			want, fewest = slices.Clone(match), changed
		}
	})
	got, e := assign.Change(g, some, add, fixed)
	if !slices.Equal(got, want) || (e == api.OK) != (want != nil) || e != api.OK && e != api.ErrNone {
		t.Fatalf("Change(%v, %v, %d, %v) = %v, %d, want %v", g, some, add, fixed, got, e, want)
	}
}

// P38.2, P38.4: great graphs.
func TestGreat(t *testing.T) {
	r := rand.New(rand.NewSource(1))
	for _, density := range []int{100, 50, 10, 5} {
		g := assign.Graph{Left: 60, Right: 64}
		for l := range g.Left {
			for x := range g.Right {
				if r.Intn(100) < density || x == 63-l {
					g.Edges = append(g.Edges, api.Edge{Left: l, Right: x, Cost: int64(r.Intn(3)) * (assign.MaxCost / 2)})
				}
			}
		}
		m, e := assign.Greatest(g)
		if n, f := assign.CheckMatching(g, m); n != 60 || e != api.OK || f != api.OK {
			t.Errorf("Greatest: %v, %d, %d", m, e, f)
		}
		c, cost, e := assign.Cheapest(g)
		left, right, _ := assign.Prices(g)
		bound, _, f := assign.CheckPrices(g, left, right)
		if n, h := assign.CheckMatching(g, c); n != 60 || bound != cost || e != api.OK || f != api.OK || h != api.OK {
			t.Errorf("Cheapest: %v, %d, %d, %d, %d", c, cost, bound, e, f)
		}
	}
}
