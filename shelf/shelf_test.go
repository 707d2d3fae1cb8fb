package shelf_test

import (
	"math"
	"math/rand"
	"reflect"
	"slices"
	"strings"
	"testing"

	"gangsaw/api"
	"gangsaw/guillotine"
	"gangsaw/shelf"
)

func example() []shelf.Part {
	return []shelf.Part{{"a", 40, 20}, {"b", 50, 30}, {"c", 30, 20}}
}

func product(name string) api.Node { return api.Node{Kind: api.Product, Name: name} }

func offcut(name string) api.Node { return api.Node{Kind: api.Offcut, Name: name} }

func waste() api.Node { return api.Node{} }

func cut(axis, at, kerf, left, right int) api.Node {
	return api.Node{Kind: api.Cut, Axis: axis, At: at, Kerf: kerf, Left: left, Right: right}
}

// P27.1 to P27.5: the examples.
func TestExamples(t *testing.T) {
	parts := example()
	if got := shelf.Order(parts); !slices.Equal(got, []int{1, 0, 2}) {
		t.Errorf("Order = %v", got)
	}
	want := shelf.Layout{Places: []shelf.Place{{1, 0, 0, 0}, {0, 60, 0, 0}, {2, 0, 40, 1}}}
	l, e := shelf.Pack(parts, 100, 100, 10)
	if !reflect.DeepEqual(l, want) || e != api.OK {
		t.Errorf("Pack = %v, %d", l, e)
	}
	if n, e := shelf.Height(parts, 100, 10); n != 60 || e != api.OK {
		t.Errorf("Height = %d, %d", n, e)
	}
	if n, e := shelf.Bound(parts, 100, 10); n != 122 || e != api.OK {
		t.Errorf("Bound = %d, %d", n, e)
	}
	plan, e := shelf.Plan(parts, 100, 100, 10, l)
	wanted := []api.Node{
		cut(1, 30, 10, 1, 4), cut(0, 50, 10, 2, 3), product("b"), product("a"),
		cut(1, 60, 10, 5, 8), cut(0, 30, 10, 6, 7), product("c"), offcut("o1"), offcut("o2"),
	}
	if !slices.Equal(plan, wanted) || e != api.OK {
		t.Errorf("Plan = %v, %d", plan, e)
	}
	sheets, e := shelf.Sheets(parts, 100, 50, 10)
	if !reflect.DeepEqual(sheets, []shelf.Layout{{Places: want.Places[:2], Left: []int{2}}, {Places: []shelf.Place{{Part: 2}}}}) || e != api.OK {
		t.Errorf("Sheets = %v, %d", sheets, e)
	}
}

// P27.1: ties go by the width, then by the index.
func TestOrder(t *testing.T) {
	parts := []shelf.Part{{"a", 3, 5}, {"b", 4, 5}, {"c", 4, 5}, {"", -1, 9}, {"e", math.MaxInt, math.MinInt}, {"f", 3, 5}}
	if got := shelf.Order(parts); !slices.Equal(got, []int{3, 1, 2, 0, 5, 4}) {
		t.Errorf("Order = %v", got)
	}
	if got := shelf.Order(nil); len(got) != 0 {
		t.Errorf("Order = %v", got)
	}
	if got := shelf.Order(make([]shelf.Part, 100)); len(got) != 100 || got[99] != 99 {
		t.Errorf("Order = %v", got)
	}
}

// P27.2: a part that fits nowhere is left over, and the open shelf stays open.
func TestPack(t *testing.T) {
	parts := []shelf.Part{{"wide", 11, 9}, {"a", 4, 8}, {"b", 7, 5}, {"c", 2, 3}, {"d", 3, 2}}
	l, e := shelf.Pack(parts, 10, 10, 1)
	if want := (shelf.Layout{Places: []shelf.Place{{1, 0, 0, 0}, {3, 5, 0, 0}}, Left: []int{0, 2, 4}}); !reflect.DeepEqual(l, want) || e != api.OK {
		t.Errorf("Pack = %v, %d", l, e)
	}
	l, e = shelf.Pack(parts, 10, 11, 1)
	if want := (shelf.Layout{Places: []shelf.Place{{1, 0, 0, 0}, {3, 5, 0, 0}, {4, 0, 9, 1}}, Left: []int{0, 2}}); !reflect.DeepEqual(l, want) || e != api.OK {
		t.Errorf("Pack = %v, %d", l, e)
	}
	// Parts may end at the very end of a sheet.
	l, _ = shelf.Pack([]shelf.Part{{"a", 4, 5}, {"a", 6, 5}, {"a", 10, 5}}, 10, 10, 0)
	if want := (shelf.Layout{Places: []shelf.Place{{2, 0, 0, 0}, {1, 0, 5, 1}, {0, 6, 5, 1}}}); !reflect.DeepEqual(l, want) {
		t.Errorf("Pack = %v", l)
	}
	if l, e := shelf.Pack(nil, 1, 1, 1000); len(l.Places)+len(l.Left) != 0 || e != api.OK {
		t.Errorf("Pack = %v, %d", l, e)
	}
}

type refusal struct {
	parts      []shelf.Part
	w, h, kerf int
	e          api.Errno
}

func refusals() []refusal {
	with := func(change func(p []shelf.Part)) []shelf.Part {
		p := example()
		change(p)
		return p
	}
	many := make([]shelf.Part, api.MaxItems+1)
	list := []refusal{
		{many, 0, 0, -1, api.ErrTooMany},
		{make([]shelf.Part, api.MaxItems), 0, 0, -1, api.ErrName},
		{with(func(p []shelf.Part) { p[2].Name, p[0].W = "C", 0 }), 0, 1, 0, api.ErrName},
		{with(func(p []shelf.Part) { p[1].Name = strings.Repeat("a", 25) }), 100, 100, 10, api.ErrName},
	}
	for _, n := range []int{0, -1, api.MaxCoord + 1, math.MaxInt, math.MinInt} {
		list = append(list,
			refusal{with(func(p []shelf.Part) { p[2].W = n }), 1, 100, 10, api.ErrRange},
			refusal{with(func(p []shelf.Part) { p[1].H = n }), 1, 100, 10, api.ErrRange},
			refusal{example(), n, 100, 10, api.ErrRange})
	}
	for _, n := range []int{-1, 1001, math.MaxInt, math.MinInt} {
		list = append(list, refusal{example(), 1, 100, n, api.ErrRange})
	}
	return list
}

// P27.1, P1: each error, and which one comes first.
func TestErrors(t *testing.T) {
	for i, c := range refusals() {
		l, e1 := shelf.Pack(c.parts, c.w, c.h, c.kerf)
		height, e2 := shelf.Height(c.parts, c.w, c.kerf)
		bound, e3 := shelf.Bound(c.parts, c.w, c.kerf)
		plan, e4 := shelf.Plan(c.parts, c.w, c.h, c.kerf, shelf.Layout{})
		sheets, e5 := shelf.Sheets(c.parts, c.w, c.h, c.kerf)
		for k, e := range []api.Errno{shelf.Check(c.parts, c.w, c.h, c.kerf), e1, e2, e3, e4, e5} {
			if e != c.e {
				t.Errorf("refusal %d, function %d: %d, want %d", i, k, e, c.e)
			}
		}
		if len(l.Places)+len(l.Left)+height+bound+len(plan)+len(sheets) != 0 || shelf.Valid(c.parts, c.w, c.h, c.kerf, shelf.Layout{}) {
			t.Errorf("refusal %d has results", i)
		}
	}
	for _, h := range []int{0, -1, api.MaxCoord + 1} {
		if e := shelf.Check(example(), 100, h, 10); e != api.ErrRange {
			t.Errorf("Check = %d", e)
		}
		if _, e := shelf.Sheets(example(), 1, h, 10); e != api.ErrRange {
			t.Errorf("Sheets = %d", e)
		}
	}
	if _, e := shelf.Height(example(), 49, 10); e != api.ErrOutside {
		t.Errorf("Height = %d", e)
	}
	if _, e := shelf.Bound(example(), 49, 10); e != api.ErrOutside {
		t.Errorf("Bound = %d", e)
	}
	for _, c := range []struct{ w, h int }{{49, 100}, {100, 29}} {
		if _, e := shelf.Sheets(example(), c.w, c.h, 10); e != api.ErrOutside {
			t.Errorf("Sheets = %d", e)
		}
	}
	if s, e := shelf.Sheets(nil, 5, 5, 0); len(s) != 0 || e != api.OK {
		t.Errorf("Sheets = %v, %d", s, e)
	}
	if e := shelf.Check([]shelf.Part{{"a", 1, api.MaxCoord}, {"a", api.MaxCoord, 1}}, api.MaxCoord, 1, 1000); e != api.OK {
		t.Errorf("Check = %d", e)
	}
	for i, l := range []shelf.Layout{
		{}, {Places: []shelf.Place{{1, 0, 0, 0}, {0, 60, 0, 0}, {2, 0, 41, 1}}}, {Places: []shelf.Place{{1, 0, 0, 0}, {0, 60, 0, 0}}, Left: []int{2}},
	} {
		if plan, e := shelf.Plan(example(), 100, 100, 10, l); plan != nil || e != api.ErrInvalid {
			t.Errorf("Plan of layout %d: %v, %d", i, plan, e)
		}
	}
}

// P27.3: nothing is needed without parts, and many high parts need more than a sheet can have.
func TestHeight(t *testing.T) {
	if n, e := shelf.Height(nil, 5, 5); n != 0 || e != api.OK {
		t.Errorf("Height = %d, %d", n, e)
	}
	if n, e := shelf.Bound(nil, 5, 5); n != 0 || e != api.OK {
		t.Errorf("Bound = %d, %d", n, e)
	}
	var parts []shelf.Part
	for range api.MaxItems {
		parts = append(parts, shelf.Part{Name: "a", W: api.MaxCoord, H: api.MaxCoord})
	}
	if n, e := shelf.Height(parts, api.MaxCoord, 1000); n != 64*1000000+63*1000 || e != api.OK {
		t.Errorf("Height = %d, %d", n, e)
	}
	if n, e := shelf.Bound(parts, api.MaxCoord, 1000); n != 128*1001000+1000000 || e != api.OK {
		t.Errorf("Bound = %d, %d", n, e)
	}
}

// P27.2
func TestValid(t *testing.T) {
	p := func(part, x, y, s int) shelf.Place { return shelf.Place{Part: part, X: x, Y: y, Shelf: s} }
	for i, c := range []struct {
		places []shelf.Place
		left   []int
		want   bool
	}{
		{[]shelf.Place{p(1, 0, 0, 0), p(0, 60, 0, 0), p(2, 0, 40, 1)}, nil, true},
		{[]shelf.Place{p(1, 0, 0, 0), p(0, 59, 0, 0), p(2, 0, 40, 1)}, nil, false},
		{[]shelf.Place{p(1, 0, 0, 0), p(0, 61, 0, 0), p(2, 0, 40, 1)}, nil, false},
		{[]shelf.Place{p(1, 0, 0, 0), p(0, 60, 0, 0), p(2, 0, 39, 1)}, nil, false},
		{[]shelf.Place{p(1, 0, 0, 0), p(0, 60, 0, 0), p(2, 70, 80, 1)}, nil, true},
		{[]shelf.Place{p(1, 0, 0, 0), p(0, 60, 0, 0), p(2, 70, 81, 1)}, nil, false},
		{[]shelf.Place{p(1, 0, 0, 0), p(0, 60, 0, 0), p(2, 0, 40, 2)}, nil, false},
		{[]shelf.Place{p(1, 0, 0, 0), p(0, 60, 0, 0), p(2, 0, 40, 0)}, nil, false},
		{[]shelf.Place{p(1, 0, 0, 0), p(0, 60, 1, 0), p(2, 0, 41, 1)}, nil, false},
		{[]shelf.Place{p(1, 0, 0, 1), p(0, 60, 0, 1), p(2, 0, 40, 2)}, nil, false},
		{[]shelf.Place{p(0, 0, 5, 0), p(1, 50, 5, 0), p(2, 0, 45, 1)}, nil, true},
		{[]shelf.Place{p(0, 0, 5, 0), p(1, 50, 5, 0), p(2, 0, 44, 1)}, nil, false},
		{[]shelf.Place{p(1, -1, 0, 0), p(0, 60, 0, 0), p(2, 0, 40, 1)}, nil, false},
		{[]shelf.Place{p(1, 0, -1, 0)}, []int{0, 2}, false},
		{[]shelf.Place{p(1, 50, 70, 0)}, []int{2, 0}, true},
		{[]shelf.Place{p(1, 51, 70, 0)}, []int{2, 0}, false},
		{[]shelf.Place{p(1, 50, 71, 0)}, []int{2, 0}, false},
		{[]shelf.Place{p(1, math.MaxInt, math.MinInt, 0)}, []int{2, 0}, false},
		{nil, []int{0, 1, 2}, true}, {nil, []int{2, 1, 0}, true}, {nil, []int{0, 1}, false}, {nil, []int{0, 1, 1}, false}, {nil, []int{0, 1, 3}, false}, {nil, []int{0, 1, -1}, false}, {nil, []int{0, 1, 2, 2}, false},
		{[]shelf.Place{p(1, 0, 0, 0)}, []int{1, 2}, false}, {[]shelf.Place{p(3, 0, 0, 0)}, []int{1, 2}, false}, {[]shelf.Place{p(-1, 0, 0, 0)}, []int{1, 2}, false},
		{[]shelf.Place{p(1, 0, 0, 0), p(0, 60, 0, 0), p(2, 0, 40, math.MinInt)}, nil, false},
	} {
		if got := shelf.Valid(example(), 100, 100, 10, shelf.Layout{Places: c.places, Left: c.left}); got != c.want {
			t.Errorf("Valid of layout %d: %v", i, got)
		}
	}
}

// P27.4: what is not more than a kerf is not cut off.
func TestPlan(t *testing.T) {
	for i, c := range []struct {
		parts      []shelf.Part
		w, h, kerf int
		want       []api.Node
	}{
		{nil, 5, 5, 1, []api.Node{offcut("o1")}},
		{[]shelf.Part{{"a", 6, 1}}, 5, 5, 1, []api.Node{offcut("o1")}},
		{[]shelf.Part{{"a", 5, 5}}, 5, 5, 0, []api.Node{product("a")}},
		{[]shelf.Part{{"a", 4, 4}}, 5, 5, 1, []api.Node{product("a")}},
		{[]shelf.Part{{"a", 4, 4}}, 5, 5, 0, []api.Node{cut(1, 4, 0, 1, 4), cut(0, 4, 0, 2, 3), product("a"), offcut("o1"), offcut("o2")}},
		{[]shelf.Part{{"a", 4, 3}}, 5, 5, 1, []api.Node{cut(1, 3, 1, 1, 2), product("a"), offcut("o1")}},
		{[]shelf.Part{{"a", 3, 4}}, 5, 5, 1, []api.Node{cut(0, 3, 1, 1, 2), product("a"), offcut("o1")}},
		{[]shelf.Part{{"a", 3, 4}, {"b", 1, 2}}, 5, 5, 1, []api.Node{cut(0, 3, 1, 1, 2), product("a"), cut(1, 2, 1, 3, 4), product("b"), waste()}},
		{[]shelf.Part{{"a", 3, 4}, {"b", 1, 3}}, 6, 5, 1, []api.Node{cut(0, 3, 1, 1, 2), product("a"), cut(1, 3, 1, 3, 4), product("b"), waste()}},
		{[]shelf.Part{{"a", 3, 4}, {"b", 1, 3}}, 7, 6, 1, []api.Node{cut(1, 4, 1, 1, 6), cut(0, 3, 1, 2, 3), product("a"), cut(0, 5, 1, 4, 5), product("b"), offcut("o1"), offcut("o2")}},
		{[]shelf.Part{{"a", 5, 2}, {"b", 4, 2}}, 5, 5, 1, []api.Node{cut(1, 2, 1, 1, 2), product("a"), product("b")}},
	} {
		l, _ := shelf.Pack(c.parts, c.w, c.h, c.kerf)
		plan, e := shelf.Plan(c.parts, c.w, c.h, c.kerf, shelf.Layout{Places: append([]shelf.Place{}, l.Places...), Left: append([]int{}, l.Left...)})
		if !slices.Equal(plan, c.want) || e != api.OK {
			t.Errorf("Plan %d = %v, %d", i, plan, e)
		}
	}
}

// packed follows the rule anew, with a shelf as its own state.
func packed(parts []shelf.Part, w, h, kerf int) shelf.Layout {
	var l shelf.Layout
	x, y, high, number := 0, 0, 0, -1
	for _, i := range shelf.Order(parts) {
		p := parts[i]
		switch {
		case number >= 0 && x+kerf+p.W <= w:
			l.Places = append(l.Places, shelf.Place{Part: i, X: x + kerf, Y: y, Shelf: number})
			x += kerf + p.W
		case number < 0 && p.W <= w && p.H <= h:
			l.Places = append(l.Places, shelf.Place{Part: i})
			x, high, number = p.W, p.H, 0
		case number >= 0 && p.W <= w && y+high+kerf+p.H <= h:
			y, high, number, x = y+high+kerf, p.H, number+1, p.W
			l.Places = append(l.Places, shelf.Place{Part: i, Y: y, Shelf: number})
		default:
			l.Left = append(l.Left, i)
		}
	}
	return l
}

func apart(a, b shelf.Place, parts []shelf.Part, kerf int) bool {
	p, q := parts[a.Part], parts[b.Part]
	return a.X+p.W+kerf <= b.X || b.X+q.W+kerf <= a.X || a.Y+p.H+kerf <= b.Y || b.Y+q.H+kerf <= a.Y
}

// P27.2 to P27.6
func TestProperties(t *testing.T) {
	r := rand.New(rand.NewSource(1))
	for range 3000 {
		w, h, kerf := 1+r.Intn(30), 1+r.Intn(30), r.Intn(4)
		var parts []shelf.Part
		for range r.Intn(9) {
			parts = append(parts, shelf.Part{Name: string(rune('a' + r.Intn(26))), W: 1 + r.Intn(12), H: 1 + r.Intn(12)})
		}
		l, e := shelf.Pack(parts, w, h, kerf)
		if !reflect.DeepEqual(l, packed(parts, w, h, kerf)) || e != api.OK || !shelf.Valid(parts, w, h, kerf, l) {
			t.Fatalf("Pack(%v, %d, %d, %d) = %v, %d", parts, w, h, kerf, l, e)
		}
		checkPlan(t, parts, w, h, kerf, l)
		need, e := shelf.Height(parts, w, kerf)
		bound, f := shelf.Bound(parts, w, kerf)
		if isWide := slices.ContainsFunc(parts, func(p shelf.Part) bool { return p.W > w }); isWide != (e == api.ErrOutside) || e != f || need > bound {
			t.Fatalf("Height, Bound = %d, %d, %d, %d", need, e, bound, f)
		}
		if e == api.OK && need > 0 {
			if l, _ := shelf.Pack(parts, w, need, kerf); len(l.Left) != 0 {
				t.Fatalf("left over on a sheet that is as high as needed: %v", l)
			}
			if l, _ := shelf.Pack(parts, w, max(need-1, 1), kerf); need > 1 && len(l.Left) == 0 {
				t.Fatalf("Height = %d", need)
			}
		}
		checkSheets(t, parts, w, h, kerf)
	}
}

func checkPlan(t *testing.T, parts []shelf.Part, w, h, kerf int, l shelf.Layout) {
	plan, e := shelf.Plan(parts, w, h, kerf, l)
	leaves, f := guillotine.Leaves(api.Vec{X: w, Y: h, Z: 1}, plan)
	normal, _ := guillotine.Normal(api.Vec{X: w, Y: h, Z: 1}, plan)
	if e != api.OK || f != api.OK || !slices.Equal(plan, normal) {
		t.Fatalf("Plan = %v, %d, %d", plan, e, f)
	}
	var names []string
	for _, leaf := range leaves {
		if leaf.Kind != api.Product {
			continue
		}
		p := l.Places[len(names)]
		size := parts[p.Part]
		if leaf.Box.Min != (api.Vec{X: p.X, Y: p.Y}) || leaf.Box.Max.X < p.X+size.W || leaf.Box.Max.X > p.X+size.W+kerf || leaf.Box.Max.Y < p.Y+size.H || leaf.Box.Max.Y > p.Y+size.H+kerf || leaf.Name != size.Name {
			t.Fatalf("the product of %v of %v is %v", p, parts, leaf)
		}
		names = append(names, leaf.Name)
	}
	if len(names) != len(l.Places) {
		t.Fatalf("%v has %d products, want %d", plan, len(names), len(l.Places))
	}
}

func checkSheets(t *testing.T, parts []shelf.Part, w, h, kerf int) {
	sheets, e := shelf.Sheets(parts, w, h, kerf)
	if e != api.OK {
		return
	}
	seen := map[int]bool{}
	rest := len(parts)
	for _, l := range sheets {
		for i, a := range l.Places {
			if seen[a.Part] {
				t.Fatalf("the part %d is there twice", a.Part)
			}
			seen[a.Part] = true
			for _, b := range l.Places[:i] {
				if !apart(a, b, parts, kerf) {
					t.Fatalf("%v and %v are too near to each other", a, b)
				}
			}
		}
		rest -= len(l.Places)
		if rest != len(l.Left) {
			t.Fatalf("left over: %v, want %d", l.Left, rest)
		}
	}
	if len(seen) != len(parts) {
		t.Fatalf("%d of %d parts are placed", len(seen), len(parts))
	}
}

// Rules: the results share no memory with the arguments.
func TestMemory(t *testing.T) {
	parts := example()
	l, _ := shelf.Pack(parts, 100, 50, 10)
	sheets, _ := shelf.Sheets(parts, 100, 50, 10)
	l.Left[0] = 9
	sheets[0].Left[0] = 8
	if again, _ := shelf.Sheets(parts, 100, 50, 10); again[0].Left[0] != 2 || !slices.Equal(parts, example()) {
		t.Errorf("%v, %v", again, parts)
	}
}
