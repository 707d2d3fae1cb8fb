package flatpack_test

import (
	"fmt"
	"math"
	"math/rand"
	"slices"
	"strings"
	"testing"

	"gangsaw/api"
	"gangsaw/flatpack"
	"gangsaw/guillotine"
)

func item(name string, x, y int, value int64) api.Item {
	return api.Item{Name: name, Size: api.Vec{X: x, Y: y, Z: 1}, Value: value}
}

// example has the items of the chapter's examples. Their kerf is 1.
func example() []api.Item { return []api.Item{item("a", 3, 2, 10), item("b", 2, 2, 6)} }

type problem struct {
	length, width int
	items         []api.Item
	kerf          int
}

func text(t *testing.T, p problem, plan []api.Node) string {
	t.Helper()
	s, e := guillotine.Text(api.Vec{X: p.length, Y: p.width, Z: 1}, plan)
	if e != api.OK {
		t.Fatalf("%v: the plan %v is not valid: %d", p, plan, e)
	}
	return s
}

func parse(t *testing.T, p problem, s string) []api.Node {
	t.Helper()
	plan, e := guillotine.Parse(api.Vec{X: p.length, Y: p.width, Z: 1}, s)
	if e != api.OK {
		t.Fatalf("%v: the text %q has no plan: %d", p, s, e)
	}
	return plan
}

// P25.1, P25.2, P25.4
func TestExamples(t *testing.T) {
	for _, c := range []struct {
		length, width int
		items         []api.Item
		kerf          int
		best          int64
		plan          string
		l, w          int
	}{
		{7, 2, example(), 1, 20, "x3/1(p a;p a)", 7, 2},
		{6, 2, example(), 1, 16, "x2/1(p b;p a)", 6, 2},
		{4, 2, example(), 1, 6, "x1/1(w;p b)", 2, 2},
		{5, 2, example(), 1, 12, "x2/1(p b;p b)", 5, 2},
		{2, 1, example(), 1, 0, "w", 1, 1},
		{40, 40, nil, 0, 0, "w", 1, 1},
		{3, 2, example(), 40, 10, "p a", 3, 2},
		{3, 3, example(), 1, 0, "w", 1, 1},
		{3, 4, example(), 1, 10, "y1/1(w;p a)", 3, 2},
		{3, 5, example(), 1, 20, "y2/1(p a;p a)", 3, 5},
		{4, 4, example(), 0, 24, "x2/0(y2/0(p b;p b);y2/0(p b;p b))", 4, 4},
		{7, 5, example(), 1, 40, "x3/1(y2/1(p a;p a);y2/1(p a;p a))", 7, 5},
		{3, 2, []api.Item{item("a", 3, 2, 5), item("b", 3, 2, 7), item("c", 3, 2, 7)}, 0, 7, "p b", 3, 2},
		{2, 1, []api.Item{item("a", 1, 1, 5), item("b", 2, 1, 10)}, 0, 10, "p b", 2, 1},
		{2, 1, []api.Item{item("a", 1, 1, 5), item("b", 2, 1, 9)}, 0, 10, "x1/0(p a;p a)", 2, 1},
		{4, 1, []api.Item{item("a", 1, 1, 0), item("b", 1, 1, 3)}, 2, 6, "x1/2(p b;p b)", 4, 1},
		{5, 1, []api.Item{item("b", 1, 1, 3)}, 2, 3, "x1/2(p b;w)", 1, 1},
		{8, 1, []api.Item{item("a", 5, 1, 9), item("b", 2, 1, 1)}, 1, 10, "x2/1(p b;p a)", 8, 1},
	} {
		p := problem{c.length, c.width, c.items, c.kerf}
		if got, e := flatpack.Best(c.length, c.width, c.items, c.kerf); got != c.best || e != api.OK {
			t.Errorf("%v: Best = %d, %d", p, got, e)
		}
		plan, e := flatpack.Plan(c.length, c.width, c.items, c.kerf)
		if got := text(t, p, plan); got != c.plan || e != api.OK {
			t.Errorf("%v: Plan = %q, %d", p, got, e)
		}
		if got, e := flatpack.Value(c.length, c.width, c.items, c.kerf, plan); got != c.best || e != api.OK {
			t.Errorf("%v: Value = %d, %d", p, got, e)
		}
		if l, w, e := flatpack.Trim(c.length, c.width, c.items, c.kerf); l != c.l || w != c.w || e != api.OK {
			t.Errorf("%v: Trim = %d, %d, %d", p, l, w, e)
		}
	}
}

type refusal struct {
	problem
	e api.Errno
}

// refusals are problems that are not valid.
func refusals() []refusal {
	with := func(change func(list []api.Item)) []api.Item {
		list := []api.Item{item("a", 3, 2, 10), item("b", 2, 2, 6), item("c", 1, 1, 1)}
		change(list)
		return list
	}
	many := make([]api.Item, flatpack.MaxKinds+1)
	list := []refusal{
		{problem{5, 5, many, 41}, api.ErrRange},
		{problem{5, 5, many, 1}, api.ErrTooMany},
		{problem{5, 5, with(func(l []api.Item) { l[2].Name, l[0].Size.X = "C", 0 }), 1}, api.ErrName},
		{problem{5, 5, with(func(l []api.Item) { l[1].Name = "" }), 1}, api.ErrName},
		{problem{5, 5, with(func(l []api.Item) { l[1].Name = strings.Repeat("b", 25) }), 1}, api.ErrName},
		{problem{5, 5, with(func(l []api.Item) { l[2].Value, l[0].Size.Z = -1, 0 }), 1}, api.ErrRange},
		{problem{5, 5, with(func(l []api.Item) { l[2].Value = flatpack.MaxValue + 1 }), 1}, api.ErrRange},
		{problem{5, 5, with(func(l []api.Item) { l[2].Size.Z, l[1].Name = 0, "a" }), 1}, api.ErrInvalid},
		{problem{5, 5, with(func(l []api.Item) { l[2].Size.Z = 2 }), 1}, api.ErrInvalid},
		{problem{5, 5, with(func(l []api.Item) { l[1].Name = "a" }), 1}, api.ErrDuplicate},
		{problem{5, 5, with(func(l []api.Item) { l[1].Name = "d" }), 1}, api.ErrDuplicate},
	}
	for _, n := range []int{0, -1, 41, math.MaxInt, math.MinInt} {
		list = append(list, refusal{problem{n, 5, many, 1}, api.ErrRange}, refusal{problem{5, n, many, 1}, api.ErrRange},
			refusal{problem{5, 5, with(func(l []api.Item) { l[1].Size.X = n }), 1}, api.ErrRange}, refusal{problem{5, 5, with(func(l []api.Item) { l[1].Size.Y = n }), 1}, api.ErrRange})
	}
	for _, n := range []int{-1, 41, math.MaxInt, math.MinInt} {
		list = append(list, refusal{problem{5, 5, nil, n}, api.ErrRange})
	}
	return list
}

// P25.1, P1: each error, and which one comes first.
func TestCheck(t *testing.T) {
	six := []api.Item{item("a", 40, 40, flatpack.MaxValue), item("b", 1, 1, 0), item("c", 2, 2, 1), item("d", 2, 2, 1), item("e", 2, 2, 1), item("f", 2, 2, 1)}
	six[0].Most, six[0].Bed = -5, 99
	for _, p := range []problem{{1, 1, nil, 0}, {40, 40, six, 40}, {7, 2, example(), 1}} {
		if e := flatpack.Check(p.length, p.width, p.items, p.kerf); e != api.OK {
			t.Errorf("Check(%v) = %d", p, e)
		}
	}
	for _, c := range refusals() {
		if e := flatpack.Check(c.length, c.width, c.items, c.kerf); e != c.e {
			t.Errorf("Check(%v) = %d, want %d", c.problem, e, c.e)
		}
		best, e1 := flatpack.Best(c.length, c.width, c.items, c.kerf)
		plan, e2 := flatpack.Plan(c.length, c.width, c.items, c.kerf)
		value, e3 := flatpack.Value(c.length, c.width, c.items, c.kerf, nil)
		table, e4 := flatpack.Bounds(c.length, c.width, c.items, c.kerf)
		l, w, e5 := flatpack.Trim(c.length, c.width, c.items, c.kerf)
		for k, e := range []api.Errno{e1, e2, e3, e4, e5} {
			if e != c.e {
				t.Errorf("%v: function %d: %d, want %d", c.problem, k+1, e, c.e)
			}
		}
		if best != 0 || plan != nil || value != 0 || table != nil || l != 0 || w != 0 || flatpack.Proves(c.length, c.width, c.items, c.kerf, table) {
			t.Errorf("%v has results beside the error", c.problem)
		}
	}
}

// P25.1
func TestValue(t *testing.T) {
	p := problem{7, 2, example(), 1}
	for _, c := range []struct {
		text string
		want int64
		e    api.Errno
	}{
		{"x3/1(p a;p a)", 20, api.OK}, {"w", 0, api.OK}, {"o z", 0, api.OK}, {"x2/1(p b;x5/1(o a;w))", 6, api.OK}, {"x3/1(o b;p a)", 10, api.OK},
		{"x2/0(p b;w)", 0, api.ErrConflict}, {"x2/1(p c;x4/2(w;w))", 0, api.ErrConflict},
		{"x2/1(p c;w)", 0, api.ErrUnknown}, {"x4/1(p a;p c)", 0, api.ErrUnknown}, {"p a", 0, api.ErrConflict}, {"x2/1(p a;w)", 0, api.ErrConflict}, {"x3/1(p b;p a)", 0, api.ErrConflict},
	} {
		if got, e := flatpack.Value(p.length, p.width, p.items, p.kerf, parse(t, p, c.text)); got != c.want || e != c.e {
			t.Errorf("Value(%q) = %d, %d", c.text, got, e)
		}
	}
	for _, c := range []struct {
		plan []api.Node
		e    api.Errno
	}{
		{nil, api.ErrInvalid}, {make([]api.Node, 1025), api.ErrTooMany}, {[]api.Node{{Kind: api.Product, Name: "A"}}, api.ErrName},
		{[]api.Node{{Kind: api.Cut, Axis: 2, At: 1, Left: 1, Right: 2}, {}, {}}, api.ErrOutside}, {[]api.Node{{Kind: api.Cut, Axis: 0, At: 7, Left: 1, Right: 2}, {}, {}}, api.ErrOutside},
	} {
		if got, e := flatpack.Value(p.length, p.width, p.items, p.kerf, c.plan); got != 0 || e != c.e {
			t.Errorf("Value(%v) = %d, %d", c.plan, got, e)
		}
	}
	// The nodes need not stand in the order of the walk.
	mixed := []api.Node{{Kind: api.Cut, At: 3, Kerf: 1, Left: 2, Right: 1}, {Kind: api.Product, Name: "a"}, {Kind: api.Offcut, Name: "a"}}
	if got, e := flatpack.Value(p.length, p.width, p.items, p.kerf, mixed); got != 10 || e != api.OK {
		t.Errorf("Value = %d, %d", got, e)
	}
}

// solver finds greatest values and first plans by trying all cuts, part by part.
type solver struct {
	problem
	known map[[2]int]int64
}

func (s solver) best(l, w int) int64 {
	if v, found := s.known[[2]int{l, w}]; found {
		return v
	}
	var v int64
	for _, x := range s.items {
		if x.Size.X == l && x.Size.Y == w {
			v = max(v, x.Value)
		}
	}
	for a := 1; l-a-s.kerf >= 1; a++ {
		v = max(v, s.best(a, w)+s.best(l-a-s.kerf, w))
	}
	for a := 1; w-a-s.kerf >= 1; a++ {
		v = max(v, s.best(l, a)+s.best(l, w-a-s.kerf))
	}
	s.known[[2]int{l, w}] = v
	return v
}

func (s solver) plan(x, y, l, w int) string {
	v := s.best(l, w)
	if v == 0 {
		return "w"
	}
	for _, i := range s.items {
		if i.Size.X == l && i.Size.Y == w && i.Value == v {
			return "p " + i.Name
		}
	}
	for a := 1; l-a-s.kerf >= 1; a++ {
		if s.best(a, w)+s.best(l-a-s.kerf, w) == v {
			return fmt.Sprintf("x%d/%d(%s;%s)", x+a, s.kerf, s.plan(x, y, a, w), s.plan(x+a+s.kerf, y, l-a-s.kerf, w))
		}
	}
	for a := 1; w-a-s.kerf >= 1; a++ {
		if s.best(l, a)+s.best(l, w-a-s.kerf) == v {
			return fmt.Sprintf("y%d/%d(%s;%s)", y+a, s.kerf, s.plan(x, y, l, a), s.plan(x, y+a+s.kerf, l, w-a-s.kerf))
		}
	}
	return ""
}

func randomProblem(r *rand.Rand, side int) problem {
	p := problem{length: 1 + r.Intn(side), width: 1 + r.Intn(side), kerf: r.Intn(3)}
	for i := range r.Intn(5) {
		p.items = append(p.items, item(fmt.Sprintf("i%d", i), 1+r.Intn(6), 1+r.Intn(6), int64(r.Intn(12))))
	}
	return p
}

// P25.2 to P25.5
func TestAgainstDefinitions(t *testing.T) {
	r := rand.New(rand.NewSource(1))
	for range 1500 {
		p := randomProblem(r, 14)
		s := solver{p, map[[2]int]int64{}}
		best, e := flatpack.Best(p.length, p.width, p.items, p.kerf)
		if best != s.best(p.length, p.width) || e != api.OK {
			t.Fatalf("%v: Best = %d, %d", p, best, e)
		}
		plan, e := flatpack.Plan(p.length, p.width, p.items, p.kerf)
		if got := text(t, p, plan); got != s.plan(0, 0, p.length, p.width) || e != api.OK {
			t.Fatalf("%v: Plan = %q, %d, want %q", p, got, e, s.plan(0, 0, p.length, p.width))
		}
		if normal := parse(t, p, text(t, p, plan)); !slices.Equal(plan, normal) {
			t.Fatalf("%v: Plan = %v is not in the order of the walk", p, plan)
		}
		if value, e := flatpack.Value(p.length, p.width, p.items, p.kerf, plan); value != best || e != api.OK {
			t.Fatalf("%v: Value = %d, %d", p, value, e)
		}
		checkBounds(t, r, p, s)
		checkTrim(t, p, s)
		checkProperties(t, p, best)
	}
}

func checkBounds(t *testing.T, r *rand.Rand, p problem, s solver) {
	t.Helper()
	table, e := flatpack.Bounds(p.length, p.width, p.items, p.kerf)
	if len(table) != p.length+1 || e != api.OK {
		t.Fatalf("%v: Bounds = %v, %d", p, table, e)
	}
	for l, row := range table {
		if len(row) != p.width+1 {
			t.Fatalf("%v: Bounds = %v", p, table)
		}
		for w, n := range row {
			if (l == 0 || w == 0) && n != 0 || l > 0 && w > 0 && n != s.best(l, w) {
				t.Fatalf("%v: Bounds has %d at %d, %d", p, n, l, w)
			}
		}
	}
	proves := func() bool { return flatpack.Proves(p.length, p.width, p.items, p.kerf, table) }
	if !proves() {
		t.Fatalf("%v: Bounds = %v is not sound", p, table)
	}
	l, w := 1+r.Intn(p.length), 1+r.Intn(p.width)
	table[l][w]--
	if proves() {
		t.Fatalf("%v: %v is sound with less at %d, %d", p, table, l, w)
	}
	// A sound table may be greater than the least one, but then it has to be so in all that is made of a part.
	table[l][w] += 8
	if proves() != isSound(p, table) {
		t.Fatalf("%v: Proves(%v) is %v", p, table, proves())
	}
}

// isSound is the definition of sound numbers.
func isSound(p problem, t flatpack.Table) bool {
	for l := 1; l <= p.length; l++ {
		for w := 1; w <= p.width; w++ {
			for _, x := range p.items {
				if x.Size.X == l && x.Size.Y == w && t[l][w] < x.Value {
					return false
				}
			}
			for a := 1; a < l; a++ {
				if b := l - a - p.kerf; b >= 1 && t[l][w] < t[a][w]+t[b][w] {
					return false
				}
			}
			for a := 1; a < w; a++ {
				if b := w - a - p.kerf; b >= 1 && t[l][w] < t[l][a]+t[l][b] {
					return false
				}
			}
		}
	}
	return true
}

func checkTrim(t *testing.T, p problem, s solver) {
	t.Helper()
	best := s.best(p.length, p.width)
	l, w := 1, 1
	for s.best(l, p.width) != best {
		l++
	}
	for s.best(l, w) != best {
		w++
	}
	if x, y, e := flatpack.Trim(p.length, p.width, p.items, p.kerf); x != l || y != w || e != api.OK {
		t.Fatalf("%v: Trim = %d, %d, %d, want %d, %d", p, x, y, e, l, w)
	}
}

// checkProperties checks that more items never make the value less, and that x and y are alike.
func checkProperties(t *testing.T, p problem, best int64) {
	t.Helper()
	var turned []api.Item
	for _, x := range p.items {
		turned = append(turned, item(x.Name, x.Size.Y, x.Size.X, x.Value))
	}
	if got, e := flatpack.Best(p.width, p.length, turned, p.kerf); got != best || e != api.OK {
		t.Fatalf("%v: Best of the turned problem is %d, %d, and %d", p, got, e, best)
	}
	more := append(slices.Clone(p.items), item("z", 2, 3, 7))
	if got, e := flatpack.Best(p.length, p.width, more, p.kerf); got < best || e != api.OK {
		t.Fatalf("%v: Best with a further item is %d, %d, and %d", p, got, e, best)
	}
}

// P25.3
func TestProves(t *testing.T) {
	proves := func(change func(t flatpack.Table) flatpack.Table) bool {
		table, e := flatpack.Bounds(5, 2, example(), 1)
		if e != api.OK {
			t.Fatal(e)
		}
		return flatpack.Proves(5, 2, example(), 1, change(table))
	}
	for i, c := range []struct {
		change func(t flatpack.Table) flatpack.Table
		want   bool
	}{
		{func(t flatpack.Table) flatpack.Table { return t }, true},
		{func(t flatpack.Table) flatpack.Table { t[5][2] = 1000000000000000; return t }, true},
		{func(t flatpack.Table) flatpack.Table { t[5][2] = 1000000000000001; return t }, false},
		{func(t flatpack.Table) flatpack.Table { t[0][1], t[3][0] = 77, 88; return t }, true},
		{func(t flatpack.Table) flatpack.Table { t[0][1] = -1; return t }, false},
		{func(t flatpack.Table) flatpack.Table { t[3][0] = 1000000000000001; return t }, false},
		{func(t flatpack.Table) flatpack.Table { t[1][1] = -1; return t }, false},
		{func(t flatpack.Table) flatpack.Table { t[3][2] = 9; return t }, false},
		{func(t flatpack.Table) flatpack.Table { t[3][2] = 12; return t }, true},
		{func(t flatpack.Table) flatpack.Table { t[3][2] = 13; return t }, false},
		{func(t flatpack.Table) flatpack.Table { t[2][2] = 7; return t }, false},
		{func(t flatpack.Table) flatpack.Table { t[5][2] = 11; return t }, false},
		{func(t flatpack.Table) flatpack.Table { return t[:5] }, false},
		{func(t flatpack.Table) flatpack.Table { return append(t, t[5]) }, false},
		{func(t flatpack.Table) flatpack.Table { t[4] = t[4][:2]; return t }, false},
		{func(t flatpack.Table) flatpack.Table { t[0] = nil; return t }, false},
		{func(t flatpack.Table) flatpack.Table { t[2] = append(t[2], 0); return t }, false},
		{func(t flatpack.Table) flatpack.Table { return nil }, false},
	} {
		if got := proves(c.change); got != c.want {
			t.Errorf("Proves %d = %v", i, got)
		}
	}
}

// P25.5: random plans have no greater value.
func TestNoBetterPlan(t *testing.T) {
	r := rand.New(rand.NewSource(2))
	for range 2000 {
		p := randomProblem(r, 10)
		best, _ := flatpack.Best(p.length, p.width, p.items, p.kerf)
		var grow func(x, y, l, w int) string
		grow = func(x, y, l, w int) string {
			for _, i := range p.items {
				if i.Size.X == l && i.Size.Y == w {
					return "p " + i.Name
				}
			}
			if l-p.kerf >= 2 && r.Intn(2) == 0 {
				a := 1 + r.Intn(l-p.kerf-1)
				return fmt.Sprintf("x%d/%d(%s;%s)", x+a, p.kerf, grow(x, y, a, w), grow(x+a+p.kerf, y, l-a-p.kerf, w))
			}
			if w-p.kerf >= 2 {
				a := 1 + r.Intn(w-p.kerf-1)
				return fmt.Sprintf("y%d/%d(%s;%s)", y+a, p.kerf, grow(x, y, l, a), grow(x, y+a+p.kerf, l, w-a-p.kerf))
			}
			return "w"
		}
		s := grow(0, 0, p.length, p.width)
		if got, e := flatpack.Value(p.length, p.width, p.items, p.kerf, parse(t, p, s)); got > best || e != api.OK {
			t.Fatalf("%v: Best = %d, but %q has %d, %d", p, best, s, got, e)
		}
	}
}

// P1, P25.2: plans with more nodes than are allowed, and the greatest values.
func TestCrowd(t *testing.T) {
	one := []api.Item{item("a", 1, 1, flatpack.MaxValue)}
	if got, e := flatpack.Best(40, 40, one, 0); got != 1600*flatpack.MaxValue || e != api.OK {
		t.Errorf("Best = %d, %d", got, e)
	}
	if plan, e := flatpack.Plan(40, 40, one, 0); plan != nil || e != api.ErrTooMany {
		t.Errorf("Plan: %d nodes, %d", len(plan), e)
	}
	if plan, e := flatpack.Plan(16, 32, one, 0); len(plan) != 1023 || e != api.OK {
		t.Errorf("Plan: %d nodes, %d", len(plan), e)
	}
	if plan, e := flatpack.Plan(27, 19, one, 0); plan != nil || e != api.ErrTooMany {
		t.Errorf("Plan: %d nodes, %d", len(plan), e)
	}
}
