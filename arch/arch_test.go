package arch_test

import (
	"math"
	"math/rand"
	"slices"
	"testing"

	"gangsaw/api"
	"gangsaw/arch"
)

const top = api.MaxCoord

func points(xy ...int) api.Polygon {
	var o api.Polygon
	for i := 0; i+1 < len(xy); i += 2 {
		o = append(o, api.Point{X: xy[i], Y: xy[i+1]})
	}
	return o
}

// example is the arch of the chapter's examples.
func example() []api.Polygon {
	list, _ := arch.Of(points(0, 0, 2, 6, 6, 6, 8, 0), points(-4, 0, 0, 10, 8, 10, 12, 0))
	return list
}

func same(a, b []api.Polygon) bool { return slices.EqualFunc(a, b, slices.Equal) }

// P40.1 to P40.4: the examples.
func TestExamples(t *testing.T) {
	list := example()
	if e := arch.Check(list); e != api.OK || len(list) != 3 || !slices.Equal(list[0], points(0, 0, 2, 6, 0, 10, -4, 0)) {
		t.Fatalf("Of = %v, %d", list, e)
	}
	if span, rise, e := arch.Span(list); span != 8 || rise != 6 || e != api.OK {
		t.Errorf("Span = %d, %d, %d", span, rise, e)
	}
	if i, e := arch.Keystone(list); i != 1 || e != api.OK {
		t.Errorf("Keystone = %d, %d", i, e)
	}
	if is, e := arch.Symmetric(list); !is || e != api.OK {
		t.Errorf("Symmetric = %v, %d", is, e)
	}
	if kinds, e := arch.Kinds(list); !slices.Equal(kinds, []int{0, 1, 0}) || e != api.OK {
		t.Errorf("Kinds = %v, %d", kinds, e)
	}
	templates, e := arch.Templates(list)
	if !same(templates, []api.Polygon{points(4, 0, 6, 6, 4, 10, 0, 0), points(2, 0, 6, 0, 8, 4, 0, 4), points(0, 6, 2, 0, 6, 0, 2, 10)}) || e != api.OK {
		t.Errorf("Templates = %v, %d", templates, e)
	}
	if n, e := arch.Area2(list); n != 168 || e != api.OK {
		t.Errorf("Area2 = %d, %d", n, e)
	}
	inner, e := arch.Inner(list)
	outer, f := arch.Outer(list)
	if !slices.Equal(inner, points(0, 0, 2, 6, 6, 6, 8, 0)) || !slices.Equal(outer, points(-4, 0, 0, 10, 8, 10, 12, 0)) || e != api.OK || f != api.OK {
		t.Errorf("%v, %v, %d, %d", inner, outer, e, f)
	}
	if mirrored, e := arch.Mirror(list); !same(mirrored, list) || e != api.OK {
		t.Errorf("Mirror = %v, %d", mirrored, e)
	}
}

// P40.1, P40.2: an arch that is not symmetric, and one without a keystone.
func TestAsymmetric(t *testing.T) {
	list, e := arch.Of(points(0, 0, 2, 6, 7, 6, 10, 0), points(-4, 0, 0, 10, 8, 10, 12, 0))
	if e != api.OK {
		t.Fatal(e)
	}
	if is, e := arch.Symmetric(list); is || e != api.OK {
		t.Errorf("Symmetric = %v, %d", is, e)
	}
	mirrored, e := arch.Mirror(list)
	want, _ := arch.Of(points(0, 0, 3, 6, 8, 6, 10, 0), points(-2, 0, 2, 10, 10, 10, 14, 0))
	if !same(mirrored, want) || e != api.OK {
		t.Errorf("Mirror = %v, %d", mirrored, e)
	}
	if kinds, _ := arch.Kinds(list); !slices.Equal(kinds, []int{0, 1, 2}) {
		t.Errorf("Kinds = %v", kinds)
	}
	two, e := arch.Of(points(0, 0, 4, 6, 8, 0), points(-4, 0, 4, 12, 12, 0))
	if e != api.OK {
		t.Fatal(e)
	}
	if i, e := arch.Keystone(two); i != 0 || e != api.ErrNone {
		t.Errorf("Keystone = %d, %d", i, e)
	}
	if kinds, _ := arch.Kinds(two); !slices.Equal(kinds, []int{0, 0}) {
		t.Errorf("Kinds = %v", kinds)
	}
	one := []api.Polygon{points(0, 0, 4, 0, 5, 3, -1, 3)}
	span, rise, e := arch.Span(one)
	i, f := arch.Keystone(one)
	if span != 4 || rise != 0 || i != 0 || e != api.OK || f != api.OK {
		t.Errorf("%d, %d, %d, %d, %d", span, rise, i, e, f)
	}
	// Voussoirs that are only turned are of other kinds, and so are those that are moved along the line.
	row := []api.Polygon{points(0, 0, 4, 0, 4, 3, 0, 3), points(4, 0, 8, 0, 8, 3, 4, 3), points(8, 0, 9, 0, 9, 3, 8, 3)}
	if kinds, e := arch.Kinds(row); !slices.Equal(kinds, []int{0, 0, 2}) || e != api.OK {
		t.Errorf("Kinds = %v, %d", kinds, e)
	}
}

type refusal struct {
	list []api.Polygon
	e    api.Errno
}

func refusals() []refusal {
	with := func(change func(v []api.Polygon)) []api.Polygon {
		list := example()
		change(list)
		return list
	}
	list := []refusal{
		{make([]api.Polygon, 65), api.ErrTooMany}, {nil, api.ErrInvalid}, {make([]api.Polygon, 64), api.ErrInvalid},
		{with(func(v []api.Polygon) { v[2], v[0][0].X = v[2][:3], top+1 }), api.ErrInvalid},
		{with(func(v []api.Polygon) { v[2] = append(v[2], api.Point{}) }), api.ErrInvalid},
		{with(func(v []api.Polygon) { v[1][0], v[0] = v[0][2], points(0, 0, 1, 1, 2, 2, 3, 3) }), api.ErrInvalid},
		{with(func(v []api.Polygon) { v[1] = points(6, 6, 2, 6, 0, 10, 8, 10) }), api.ErrInvalid},
		{with(func(v []api.Polygon) { v[2] = points(6, 6, 8, 0, 12, 0, 9, 0) }), api.ErrInvalid},
		{with(func(v []api.Polygon) { v[2] = points(6, 6, 8, 0, 10, 0, 12, 0) }), api.ErrInvalid},
		{with(func(v []api.Polygon) { v[2] = points(6, 6, 12, 0, 8, 0, 8, 10) }), api.ErrInvalid},
		{with(func(v []api.Polygon) { v[1][0].X++; v[2][1].Y++ }), api.ErrConflict},
		{with(func(v []api.Polygon) { v[1][3].X++ }), api.ErrConflict},
		{with(func(v []api.Polygon) { v[2][3].Y++ }), api.ErrConflict},
		{with(func(v []api.Polygon) { v[2][1].Y++ }), api.ErrState},
		{[]api.Polygon{points(0, 0, 0, -5, 5, -5, 5, 0)}, api.ErrState},
		{[]api.Polygon{points(5, 5, 0, 5, 0, 0, 5, 0)}, api.ErrState},
	}
	for _, n := range []int{top + 1, -top - 1, math.MaxInt, math.MinInt} {
		list = append(list, refusal{with(func(v []api.Polygon) { v[0][3].X = n; v[1] = points(6, 6, 2, 6, 0, 10, 8, 10) }), api.ErrRange}, refusal{with(func(v []api.Polygon) { v[2][2].Y = n }), api.ErrRange})
	}
	list = append(list, refusal{over(), api.ErrOverlap})
	return list
}

// over goes round a point more than once: the last voussoir lies upon the first one.
func over() []api.Polygon {
	inner := points(-10, 0, 0, 10, 10, 0, 0, -10, -10, -1, -8, 2, -2, 0)
	outer := points(-20, 0, 0, 20, 20, 0, 0, -20, -20, -1, -18, 9, -17, 20)
	var list []api.Polygon
	for i := range len(inner) - 1 {
		list = append(list, api.Polygon{inner[i], inner[i+1], outer[i+1], outer[i]})
	}
	return list
}

// P40.1, P1: each error, and which one comes first.
func TestErrors(t *testing.T) {
	for i, c := range refusals() {
		span, rise, e1 := arch.Span(c.list)
		inner, e2 := arch.Inner(c.list)
		outer, e3 := arch.Outer(c.list)
		keystone, e4 := arch.Keystone(c.list)
		is, e5 := arch.Symmetric(c.list)
		mirrored, e6 := arch.Mirror(c.list)
		templates, e7 := arch.Templates(c.list)
		kinds, e8 := arch.Kinds(c.list)
		area, e9 := arch.Area2(c.list)
		for k, e := range []api.Errno{arch.Check(c.list), e1, e2, e3, e4, e5, e6, e7, e8, e9} {
			if e != c.e {
				t.Errorf("refusal %d, function %d: %d, want %d", i, k, e, c.e)
			}
		}
		if span+rise+keystone+int(area) != 0 || is || len(inner)+len(outer)+len(mirrored)+len(templates)+len(kinds) != 0 {
			t.Errorf("refusal %d has results", i)
		}
	}
	if _, e := arch.Mirror([]api.Polygon{points(top-9, 0, top-5, 0, top-4, 3, top-20, 3)}); e != api.ErrRange {
		t.Errorf("Mirror = %d", e)
	}
	if is, e := arch.Symmetric([]api.Polygon{points(top-9, 0, top-5, 0, top-4, 3, top-20, 3)}); is || e != api.OK {
		t.Errorf("Symmetric = %v, %d", is, e)
	}
	if _, e := arch.Mirror([]api.Polygon{points(top-9, 0, top-5, 0, top-4, 3, top-14, 3)}); e != api.OK {
		t.Errorf("Mirror = %d", e)
	}
}

// P40.4, P1
func TestOf(t *testing.T) {
	long := make(api.Polygon, 66)
	for i, c := range []struct {
		inner, outer api.Polygon
		e            api.Errno
	}{
		{nil, nil, api.ErrInvalid}, {points(0, 0), points(0, 1), api.ErrInvalid}, {points(0, 0, 1, 0), points(0, 1, 1, 1, 2, 1), api.ErrInvalid}, {long, long, api.ErrTooMany}, {points(0, 0, top+1, 0), points(0, 1, 1, 1), api.ErrRange},
		{points(0, 1, 1, 1), points(0, 0, 1, 0), api.ErrInvalid}, {points(0, 0, 1, 1), points(0, 2, 1, 2), api.ErrState}, {points(0, 0, 1, 0), points(0, 1, 1, 1), api.OK},
	} {
		list, e := arch.Of(c.inner, c.outer)
		if e != c.e || e != api.OK && list != nil {
			t.Errorf("Of %d = %v, %d", i, list, e)
		}
	}
}

// random is a wide arch whose flanks are upright or lean outwards.
func random(r *rand.Rand) []api.Polygon {
	n := 1 + r.Intn(6)
	var inner, outer api.Polygon
	x := 0
	for i := range n + 1 {
		y := r.Intn(6)
		if i == 0 || i == n {
			y = 0
		}
		inner = append(inner, api.Point{X: x, Y: y})
		outer = append(outer, api.Point{X: x + r.Intn(3), Y: 10 + r.Intn(4)})
		x += 4 + r.Intn(6)
	}
	list, _ := arch.Of(inner, outer)
	return list
}

// P40.4, P40.5
func TestProperties(t *testing.T) {
	r := rand.New(rand.NewSource(1))
	tried := 0
	for range 3000 {
		list := random(r)
		if list == nil {
			continue
		}
		tried++
		inner, _ := arch.Inner(list)
		outer, _ := arch.Outer(list)
		again, _ := arch.Of(inner, outer)
		mirrored, e := arch.Mirror(list)
		back, _ := arch.Mirror(mirrored)
		if !same(again, list) || e != api.OK || arch.Check(mirrored) != api.OK || !same(back, list) {
			t.Fatalf("%v: %v, %v, %d", list, again, mirrored, e)
		}
		whole := slices.Clone(inner)
		for _, p := range slices.Backward(outer) {
			whole = append(whole, p)
		}
		area := 0
		for i, p := range whole {
			q := whole[(i+1)%len(whole)]
			area += p.X*q.Y - q.X*p.Y
		}
		a, _ := arch.Area2(list)
		am, _ := arch.Area2(mirrored)
		span, rise, _ := arch.Span(list)
		spanM, riseM, _ := arch.Span(mirrored)
		kinds, _ := arch.Kinds(list)
		kindsM, _ := arch.Kinds(mirrored)
		is, _ := arch.Symmetric(list)
		if int(a) != area || am != a || span != spanM || rise != riseM || count(kinds) != count(kindsM) || is != same(list, mirrored) || is && count(kinds) > len(list)/2+1 {
			t.Fatalf("%v: %d, %d, %d, %d, %d, %d, %v, %v", list, a, am, span, spanM, rise, riseM, kinds, kindsM)
		}
	}
	if tried < 500 {
		t.Errorf("only %d arches", tried)
	}
}

func count(kinds []int) int {
	n := 0
	for i, k := range kinds {
		if i == k {
			n++
		}
	}
	return n
}
