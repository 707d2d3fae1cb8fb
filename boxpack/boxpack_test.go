package boxpack_test

import (
	"fmt"
	"math"
	"math/rand"
	"slices"
	"testing"

	"gangsaw/api"
	"gangsaw/boxpack"
)

func v(x, y, z int) api.Vec { return api.Vec{X: x, Y: y, Z: z} }

func item(name string, x, y, z int, value int64) api.Item {
	return api.Item{Name: name, Size: v(x, y, z), Value: value}
}

func waste() api.Node { return api.Node{Kind: api.Waste} }

func product(name string) api.Node { return api.Node{Kind: api.Product, Name: name} }

func offcut(name string) api.Node { return api.Node{Kind: api.Offcut, Name: name} }

func cut(axis, at, kerf, left, right int) api.Node {
	return api.Node{Kind: api.Cut, Axis: axis, At: at, Kerf: kerf, Left: left, Right: right}
}

// example is the problem of the chapter's examples.
func example() boxpack.Problem {
	return boxpack.Problem{Size: v(5, 2, 1), Kerf: 1, Items: []api.Item{item("a", 2, 2, 1, 5), item("b", 1, 1, 1, 1)}}
}

// P26.2
func TestBest(t *testing.T) {
	wide := example()
	wide.Kerf = 2
	for i, c := range []struct {
		p    boxpack.Problem
		best int64
		plan []api.Node
	}{
		{example(), 10, []api.Node{cut(0, 2, 1, 1, 2), product("a"), product("a")}},
		{wide, 6, []api.Node{cut(0, 1, 2, 1, 2), product("b"), product("a")}},
		{boxpack.Problem{Size: v(5, 2, 1), Kerf: 24, Items: example().Items}, 5, []api.Node{product("a")}},
		{boxpack.Problem{Size: v(3, 3, 3)}, 0, []api.Node{waste()}},
		{boxpack.Problem{Size: v(3, 3, 3), Items: []api.Item{item("a", 1, 1, 1, 0)}}, 0, []api.Node{waste()}},
		{boxpack.Problem{Size: v(3, 3, 3), Items: []api.Item{item("a", 4, 1, 1, 9)}}, 0, []api.Node{waste()}},
		{boxpack.Problem{Size: v(3, 3, 3), Items: []api.Item{item("B", 2, 3, 1, 7), item("a", 1, 1, 1, 9), item("c", 3, 3, 3, 9)}, Kerf: 3}, 9, []api.Node{product("a")}},
		{boxpack.Problem{Size: v(2, 2, 2), Items: []api.Item{item("a", 1, 2, 2, 3), item("b", 2, 1, 2, 3)}}, 6, []api.Node{cut(0, 1, 0, 1, 2), product("a"), product("a")}},
		{boxpack.Problem{Size: v(2, 2, 2), Items: []api.Item{item("a", 2, 2, 1, 3)}}, 6, []api.Node{cut(2, 1, 0, 1, 2), product("a"), product("a")}},
		{boxpack.Problem{Size: v(1, 5, 1), Items: []api.Item{item("a", 1, 2, 1, 3), item("b", 1, 1, 1, 1)}, Kerf: 1}, 6, []api.Node{cut(1, 2, 1, 1, 2), product("a"), product("a")}},
		{boxpack.Problem{Size: v(1, 1, 5), Items: []api.Item{item("b", 1, 1, 1, 1)}, Kerf: 1}, 3, []api.Node{cut(2, 1, 1, 1, 2), product("b"), cut(2, 3, 1, 3, 4), product("b"), product("b")}},
		{boxpack.Problem{Size: v(3, 1, 2), Items: []api.Item{item("b", 1, 1, 1, 1)}}, 6, []api.Node{
			cut(0, 1, 0, 1, 4), cut(2, 1, 0, 2, 3), product("b"), product("b"), cut(0, 2, 0, 5, 8), cut(2, 1, 0, 6, 7), product("b"), product("b"), cut(2, 1, 0, 9, 10), product("b"), product("b"),
		}},
	} {
		best, plan, e := boxpack.Best(c.p)
		if best != c.best || !slices.Equal(plan, c.plan) || e != api.OK {
			t.Errorf("Best of problem %d: %d, %v, %d", i, best, plan, e)
		}
		if got, e := boxpack.Value(c.p, plan); got != c.best || e != api.OK {
			t.Errorf("Value of problem %d: %d, %d", i, got, e)
		}
	}
}

type refusal struct {
	p boxpack.Problem
	e api.Errno
}

// refusals are problems that are not valid.
func refusals() []refusal {
	with := func(change func(p *boxpack.Problem)) boxpack.Problem {
		p := boxpack.Problem{Size: v(5, 2, 1), Kerf: 1, Items: []api.Item{item("a", 2, 2, 1, 5), item("b", 1, 1, 1, 1), item("c", 1, 1, 1, 1)}}
		change(&p)
		return p
	}
	list := []refusal{
		{boxpack.Problem{}, api.ErrRange},
		{with(func(p *boxpack.Problem) { p.Items = make([]api.Item, 7); p.Kerf = -1 }), api.ErrTooMany},
		{with(func(p *boxpack.Problem) { p.Items[2].Name, p.Kerf, p.Items[0].Value = "", -1, -1 }), api.ErrName},
		{with(func(p *boxpack.Problem) { p.Items[2].Value, p.Items[1].Name = -1, "a" }), api.ErrRange},
		{with(func(p *boxpack.Problem) { p.Items[2].Value = boxpack.MaxValue + 1 }), api.ErrRange},
		{with(func(p *boxpack.Problem) { p.Items[2].Value = math.MinInt64 }), api.ErrRange},
		{with(func(p *boxpack.Problem) { p.Items[2].Name = "a" }), api.ErrDuplicate},
		{with(func(p *boxpack.Problem) { p.Items[1].Name = "c" }), api.ErrDuplicate},
	}
	for _, n := range []int{-1, 25, math.MaxInt, math.MinInt} {
		list = append(list, refusal{with(func(p *boxpack.Problem) { p.Kerf, p.Items[1].Name = n, "a" }), api.ErrRange})
	}
	for _, n := range []int{0, -1, 25, math.MaxInt, math.MinInt} {
		for i := range 6 {
			list = append(list, refusal{with(func(p *boxpack.Problem) {
				*[]*int{&p.Size.X, &p.Size.Y, &p.Size.Z, &p.Items[1].Size.X, &p.Items[2].Size.Y, &p.Items[0].Size.Z}[i] = n
			}), api.ErrRange})
		}
	}
	return list
}

// P26.1, P1: each error, and which one comes first.
func TestCheck(t *testing.T) {
	for i, p := range []boxpack.Problem{
		example(), {Size: v(1, 1, 1)}, {Size: v(24, 24, 24), Kerf: 24},
		{Size: v(1, 1, 1), Items: []api.Item{item("A b", 24, 24, 24, boxpack.MaxValue), item("\xff", 1, 1, 1, 0), item("1", 1, 1, 1, 0), item("2", 1, 1, 1, 0), item("3", 1, 1, 1, 0), {Name: "4", Size: v(1, 1, 1), Most: -7, Bed: 99}}},
	} {
		if e := boxpack.Check(p); e != api.OK {
			t.Errorf("Check of problem %d: %d", i, e)
		}
	}
	for i, c := range refusals() {
		best, plan, e1 := boxpack.Best(c.p)
		value, e2 := boxpack.Value(c.p, make([]api.Node, 2000))
		table, e3 := boxpack.Table(c.p)
		n, e4 := boxpack.CheckTable(c.p, nil)
		bound, e5 := boxpack.Bound(c.p, nil)
		for k, e := range []api.Errno{boxpack.Check(c.p), e1, e2, e3, e4, e5} {
			if e != c.e {
				t.Errorf("refusal %d, function %d: %d, want %d", i, k, e, c.e)
			}
		}
		if best != 0 || plan != nil || value != 0 || table != nil || n != 0 || bound != 0 || boxpack.Proves(c.p, nil, nil) {
			t.Errorf("refusal %d has results beside the error", i)
		}
	}
}

// P26.1
func TestValue(t *testing.T) {
	for i, c := range []struct {
		plan []api.Node
		want int64
		e    api.Errno
	}{
		{[]api.Node{waste()}, 0, api.OK},
		{[]api.Node{offcut("")}, 0, api.OK},
		{[]api.Node{offcut("A b")}, 0, api.OK},
		{[]api.Node{product("a")}, 5, api.OK},
		{[]api.Node{product("b")}, 1, api.OK},
		{[]api.Node{cut(0, 2, 1, 2, 1), product("a"), product("b")}, 6, api.OK},
		{[]api.Node{cut(0, 1, 1, 1, 4), product("b"), waste(), product("a"), cut(0, 4, 1, 3, 2)}, 0, api.ErrInvalid},
		{[]api.Node{cut(0, 1, 1, 1, 2), product("b"), cut(0, 4, 1, 3, 4), product("a"), offcut("a")}, 0, api.ErrRange},
		{[]api.Node{cut(0, 1, 1, 1, 2), product("b"), cut(0, 3, 1, 4, 3), offcut("a"), product("b")}, 2, api.OK},
		{nil, 0, api.ErrInvalid},
		{make([]api.Node, 1024), 0, api.ErrInvalid},
		{make([]api.Node, 1025), 0, api.ErrTooMany},
		{[]api.Node{{Kind: 4}}, 0, api.ErrInvalid},
		{[]api.Node{{Kind: -1}}, 0, api.ErrInvalid},
		{[]api.Node{{Kind: api.Waste, Name: "a"}}, 0, api.ErrInvalid},
		{[]api.Node{{Kind: api.Offcut, Axis: 1}}, 0, api.ErrInvalid},
		{[]api.Node{{Kind: api.Waste, At: 1}}, 0, api.ErrInvalid},
		{[]api.Node{{Kind: api.Product, Name: "x", Kerf: 1}}, 0, api.ErrInvalid},
		{[]api.Node{{Kind: api.Product, Name: "x", Left: 1}, waste()}, 0, api.ErrInvalid},
		{[]api.Node{{Kind: api.Product, Name: "x", Right: -1}}, 0, api.ErrInvalid},
		{[]api.Node{product("x"), waste()}, 0, api.ErrInvalid},
		{[]api.Node{cut(0, 9, 1, 1, 2), product("x"), product("y"), waste()}, 0, api.ErrInvalid},
		{[]api.Node{cut(0, 9, 1, 1, 1), product("x")}, 0, api.ErrInvalid},
		{[]api.Node{cut(0, 9, 1, 1, 1), product("x"), waste()}, 0, api.ErrInvalid},
		{[]api.Node{cut(0, 9, 1, 0, 1), product("x")}, 0, api.ErrInvalid},
		{[]api.Node{cut(0, 9, 1, 1, 3), product("x"), waste()}, 0, api.ErrInvalid},
		{[]api.Node{cut(0, 9, 1, math.MinInt, math.MaxInt), product("x"), waste()}, 0, api.ErrInvalid},
		{[]api.Node{cut(3, 9, 1, 1, 2), product("x"), waste()}, 0, api.ErrInvalid},
		{[]api.Node{cut(-1, 9, 1, 1, 2), product("x"), waste()}, 0, api.ErrInvalid},
		{[]api.Node{{Kind: api.Cut, Name: "c", At: 2, Kerf: 1, Left: 1, Right: 2}, waste(), waste()}, 0, api.ErrInvalid},
		{[]api.Node{cut(0, 2, 1, 1, 2), cut(1, 1, 1, 3, 2), waste(), waste()}, 0, api.ErrInvalid},
		{[]api.Node{product("c")}, 0, api.ErrUnknown},
		{[]api.Node{product("")}, 0, api.ErrUnknown},
		{[]api.Node{cut(0, 1, 1, 1, 2), product("a"), product("c")}, 0, api.ErrOutside},
		{[]api.Node{cut(0, 1, 1, 2, 1), product("c"), product("a")}, 0, api.ErrUnknown},
		{[]api.Node{cut(0, 3, 1, 1, 2), waste(), product("a")}, 0, api.ErrOutside},
		{[]api.Node{cut(0, 3, 1, 1, 2), waste(), waste(), cut(0, 2, 1, 3, 4), waste()}, 0, api.ErrInvalid},
		{[]api.Node{cut(0, 2, 2, 1, 2), product("x"), product("y")}, 0, api.ErrRange},
		{[]api.Node{cut(0, 2, 0, 1, 2), waste(), waste()}, 0, api.ErrRange},
		{[]api.Node{cut(0, 0, 1, 1, 2), waste(), waste()}, 0, api.ErrRange},
		{[]api.Node{cut(0, 4, 1, 1, 2), waste(), waste()}, 0, api.ErrRange},
		{[]api.Node{cut(0, 3, 1, 1, 2), waste(), waste()}, 0, api.OK},
		{[]api.Node{cut(1, 1, 1, 1, 2), waste(), waste()}, 0, api.ErrRange},
		{[]api.Node{cut(2, 1, 1, 1, 2), waste(), waste()}, 0, api.ErrRange},
		{[]api.Node{cut(0, math.MaxInt, 1, 1, 2), waste(), waste()}, 0, api.ErrRange},
		{[]api.Node{cut(0, math.MinInt, 1, 1, 2), waste(), waste()}, 0, api.ErrRange},
		{[]api.Node{cut(0, 3, 1, 1, 2), cut(0, 3, 1, 3, 4), product("x"), waste(), waste()}, 0, api.ErrRange},
		{[]api.Node{cut(0, 3, 1, 1, 2), cut(0, 1, 1, 3, 4), product("x"), waste(), waste()}, 0, api.ErrUnknown},
		{[]api.Node{cut(0, 1, 1, 1, 2), waste(), cut(0, 2, 1, 3, 4), waste(), waste()}, 0, api.ErrRange},
	} {
		if got, e := boxpack.Value(example(), c.plan); got != c.want || e != c.e {
			t.Errorf("Value of plan %d: %d, %d, want %d", i, got, e, c.e)
		}
	}
	// An item fits if none of its sides is greater than that of its box, in the direction that is given.
	p := boxpack.Problem{Size: v(3, 4, 5), Items: []api.Item{item("a", 3, 4, 5, 1), item("b", 4, 3, 5, 1), item("c", 3, 5, 4, 1), item("d", 3, 4, 6, 1), item("e", 1, 1, 5, 2)}}
	for name, want := range map[string]api.Errno{"a": api.OK, "b": api.ErrOutside, "c": api.ErrOutside, "d": api.ErrOutside, "e": api.OK} {
		if _, e := boxpack.Value(p, []api.Node{product(name)}); e != want {
			t.Errorf("Value of %q: %d", name, e)
		}
	}
}

// P26.3
func TestTable(t *testing.T) {
	p := example()
	p.Size = v(2, 2, 1)
	if got, e := boxpack.Table(p); !slices.Equal(got, []int64{1, 1, 1, 5}) || e != api.OK {
		t.Errorf("Table = %v, %d", got, e)
	}
	// x counts fastest, then y, then z.
	p = boxpack.Problem{Size: v(2, 2, 2), Items: []api.Item{item("a", 2, 1, 1, 3), item("b", 1, 2, 1, 4), item("c", 1, 1, 2, 5)}, Kerf: 1}
	if got, e := boxpack.Table(p); !slices.Equal(got, []int64{0, 3, 4, 4, 5, 5, 5, 5}) || e != api.OK {
		t.Errorf("Table = %v, %d", got, e)
	}
}

// P26.3, P26.4
func TestCheckTable(t *testing.T) {
	p := example()
	least, _ := boxpack.Table(p)
	plan := []api.Node{cut(0, 2, 1, 1, 2), product("a"), product("a")}
	if !slices.Equal(least, []int64{1, 1, 2, 2, 3, 1, 5, 5, 6, 10}) {
		t.Fatalf("Table = %v", least)
	}
	for i, c := range []struct {
		change func(t []int64) []int64
		n      int
		bound  int64
		e      api.Errno
		proves bool
	}{
		{func(t []int64) []int64 { return t }, 10, 10, api.OK, true},
		{func(t []int64) []int64 { t[9] = boxpack.MaxBound; return t }, 10, boxpack.MaxBound, api.OK, false},
		{func(t []int64) []int64 { t[9] = boxpack.MaxBound + 1; return t }, 0, 0, api.ErrInvalid, false},
		{func(t []int64) []int64 { t[0], t[5] = 0, -1; return t }, 0, 0, api.ErrInvalid, false},
		{func(t []int64) []int64 { return t[:9] }, 0, 0, api.ErrInvalid, false},
		{func(t []int64) []int64 { return append(t, 10) }, 0, 0, api.ErrInvalid, false},
		{func(t []int64) []int64 { return nil }, 0, 0, api.ErrInvalid, false},
		{func(t []int64) []int64 { t[0] = 0; return t }, 0, 0, api.ErrConflict, false},
		{func(t []int64) []int64 { t[9] = 9; return t }, 9, 0, api.ErrConflict, false},
		{func(t []int64) []int64 { t[6], t[9] = 4, 0; return t }, 6, 0, api.ErrConflict, false},
		{func(t []int64) []int64 { t[3] = 5; return t }, 10, 10, api.OK, true},
		{func(t []int64) []int64 { t[1] = 2; return t }, 3, 0, api.ErrConflict, false},
		{func(t []int64) []int64 { t[1], t[3], t[4], t[9] = 2, 3, 4, 11; return t }, 10, 11, api.OK, false},
	} {
		table := c.change(slices.Clone(least))
		if n, e := boxpack.CheckTable(p, table); n != c.n || e != c.e {
			t.Errorf("CheckTable %d = %d, %d", i, n, e)
		}
		if bound, e := boxpack.Bound(p, table); bound != c.bound || e != c.e {
			t.Errorf("Bound %d = %d, %d", i, bound, e)
		}
		if got := boxpack.Proves(p, table, plan); got != c.proves {
			t.Errorf("Proves %d = %v", i, got)
		}
	}
	for i, other := range [][]api.Node{{product("a")}, nil, {cut(0, 2, 0, 1, 2), product("a"), product("a")}, append(slices.Clone(plan), product("a"))} {
		if boxpack.Proves(p, least, other) {
			t.Errorf("Proves with the plan %d", i)
		}
	}
}

type side = [3]int

// solver finds greatest values by trying all cuts, size by size.
type solver struct {
	p     boxpack.Problem
	known map[side]int64
}

func fits(x api.Item, s side) bool { return x.Size.X <= s[0] && x.Size.Y <= s[1] && x.Size.Z <= s[2] }

func (s solver) best(b side) int64 {
	if n, found := s.known[b]; found {
		return n
	}
	var n int64
	for _, x := range s.p.Items {
		if fits(x, b) {
			n = max(n, x.Value)
		}
	}
	for axis := range 3 {
		for a := 1; b[axis]-a-s.p.Kerf >= 1; a++ {
			left, right := b, b
			left[axis], right[axis] = a, b[axis]-a-s.p.Kerf
			n = max(n, s.best(left)+s.best(right))
		}
	}
	s.known[b] = n
	return n
}

// plan appends the first best plan of a part.
func (s solver) plan(list []api.Node, b, from side) []api.Node {
	n := s.best(b)
	if n == 0 {
		return append(list, waste())
	}
	for _, x := range s.p.Items {
		if fits(x, b) && x.Value == n {
			return append(list, product(x.Name))
		}
	}
	for axis := range 3 {
		for a := 1; b[axis]-a-s.p.Kerf >= 1; a++ {
			left, right, behind := b, b, from
			left[axis], right[axis] = a, b[axis]-a-s.p.Kerf
			behind[axis] += a + s.p.Kerf
			if s.best(left)+s.best(right) == n {
				at := len(list)
				list = s.plan(append(list, cut(axis, from[axis]+a, s.p.Kerf, at+1, 0)), left, from)
				list[at].Right = len(list)
				return s.plan(list, right, behind)
			}
		}
	}
	return nil
}

func randomProblem(r *rand.Rand) boxpack.Problem {
	p := boxpack.Problem{Size: v(1+r.Intn(7), 1+r.Intn(7), 1+r.Intn(7)), Kerf: r.Intn(3)}
	for i := range r.Intn(5) {
		p.Items = append(p.Items, item(fmt.Sprint(i), 1+r.Intn(5), 1+r.Intn(5), 1+r.Intn(5), int64(r.Intn(9))))
	}
	return p
}

// P26.2 to P26.5
func TestAgainstDefinitions(t *testing.T) {
	r := rand.New(rand.NewSource(1))
	for range 600 {
		p := randomProblem(r)
		s := solver{p, map[side]int64{}}
		whole := side{p.Size.X, p.Size.Y, p.Size.Z}
		best, plan, e := boxpack.Best(p)
		if best != s.best(whole) || !slices.Equal(plan, s.plan(nil, whole, side{})) || e != api.OK {
			t.Fatalf("%v: Best = %d, %v, %d, want %d", p, best, plan, e, s.best(whole))
		}
		table, e := boxpack.Table(p)
		if len(table) != whole[0]*whole[1]*whole[2] || e != api.OK {
			t.Fatalf("%v: Table = %v, %d", p, table, e)
		}
		i := 0
		for z := range whole[2] {
			for y := range whole[1] {
				for x := range whole[0] {
					if table[i] != s.best(side{x + 1, y + 1, z + 1}) {
						t.Fatalf("%v: Table = %v", p, table)
					}
					i++
				}
			}
		}
		if n, e := boxpack.CheckTable(p, table); n != len(table) || e != api.OK || !boxpack.Proves(p, table, plan) {
			t.Fatalf("%v: CheckTable = %d, %d", p, n, e)
		}
		if k := r.Intn(len(table)); table[k] > 0 {
			table[k]--
			if n, e := boxpack.CheckTable(p, table); n != k || e != api.ErrConflict || boxpack.Proves(p, table, plan) {
				t.Fatalf("%v: CheckTable(%v) = %d, %d", p, table, n, e)
			}
		}
		checkGrowth(t, p, best)
	}
}

// checkGrowth checks that a greater piece, a further item and a smaller kerf do not make the value smaller.
func checkGrowth(t *testing.T, p boxpack.Problem, best int64) {
	t.Helper()
	for i, q := range []boxpack.Problem{
		{Size: v(p.Size.X+1, p.Size.Y, p.Size.Z), Kerf: p.Kerf, Items: p.Items}, {Size: v(p.Size.X, p.Size.Y+1, p.Size.Z), Kerf: p.Kerf, Items: p.Items}, {Size: v(p.Size.X, p.Size.Y, p.Size.Z+1), Kerf: p.Kerf, Items: p.Items},
		{Size: p.Size, Kerf: max(0, p.Kerf-1), Items: p.Items}, {Size: p.Size, Kerf: p.Kerf, Items: append(slices.Clone(p.Items), item("z", 2, 2, 2, 3))},
	} {
		if got, _, e := boxpack.Best(q); got < best || e != api.OK {
			t.Fatalf("%v has %d, but with the change %d: %d, %d", p, best, i, got, e)
		}
	}
}

// P26.5: random plans have no greater value.
func TestNoBetterPlan(t *testing.T) {
	r := rand.New(rand.NewSource(2))
	for range 3000 {
		p := randomProblem(r)
		var plan []api.Node
		var grow func(b, from side)
		grow = func(b, from side) {
			axis, at := r.Intn(3), len(plan)
			if room := b[axis] - p.Kerf - 1; room >= 1 && r.Intn(5) > 0 {
				a := 1 + r.Intn(room)
				plan = append(plan, cut(axis, from[axis]+a, p.Kerf, at+1, 0))
				left, right := b, b
				left[axis], right[axis] = a, b[axis]-a-p.Kerf
				grow(left, from)
				plan[at].Right = len(plan)
				from[axis] += a + p.Kerf
				grow(right, from)
				return
			}
			for _, i := range r.Perm(len(p.Items)) {
				if fits(p.Items[i], b) {
					plan = append(plan, product(p.Items[i].Name))
					return
				}
			}
			plan = append(plan, offcut("rest"))
		}
		grow(side{p.Size.X, p.Size.Y, p.Size.Z}, side{})
		best, _, _ := boxpack.Best(p)
		if got, e := boxpack.Value(p, plan); got > best || e != api.OK {
			t.Fatalf("%v: Best = %d, but %v has %d, %d", p, best, plan, got, e)
		}
	}
}

// P1, P26.2: plans with more nodes than are allowed, and the greatest values.
func TestCrowd(t *testing.T) {
	p := boxpack.Problem{Size: v(24, 24, 24), Items: []api.Item{item("a", 1, 1, 1, boxpack.MaxValue)}}
	if best, plan, e := boxpack.Best(p); best != 0 || plan != nil || e != api.ErrTooMany {
		t.Errorf("Best = %d, %d nodes, %d", best, len(plan), e)
	}
	table, e := boxpack.Table(p)
	if len(table) != 13824 || table[13823] != 13824*boxpack.MaxValue || e != api.OK {
		t.Errorf("Table has %d numbers, %d", len(table), e)
	}
	if n, e := boxpack.CheckTable(p, table); n != 13824 || e != api.OK {
		t.Errorf("CheckTable = %d, %d", n, e)
	}
	p.Size = v(8, 8, 8)
	best, plan, e := boxpack.Best(p)
	if best != 512*boxpack.MaxValue || len(plan) != 1023 || e != api.OK {
		t.Errorf("Best = %d, %d nodes, %d", best, len(plan), e)
	}
	if got, e := boxpack.Value(p, plan); got != best || e != api.OK {
		t.Errorf("Value = %d, %d", got, e)
	}
	p.Size = v(3, 9, 19)
	if best, plan, e := boxpack.Best(p); best != 0 || plan != nil || e != api.ErrTooMany {
		t.Errorf("Best of 513 pieces = %d, %d nodes, %d", best, len(plan), e)
	}
}
