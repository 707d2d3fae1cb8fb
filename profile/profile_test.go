package profile_test

import (
	"math"
	"math/rand"
	"slices"
	"strings"
	"testing"

	"gangsaw/api"
	"gangsaw/profile"
)

const top = api.MaxCoord

func outline(xy ...int) api.Polygon {
	var o api.Polygon
	for i := 0; i+1 < len(xy); i += 2 {
		o = append(o, api.Point{X: xy[i], Y: xy[i+1]})
	}
	return o
}

func of(xy ...int) api.Profile { return api.Profile{Name: "p", Outline: outline(xy...)} }

func square() api.Profile { return of(0, 0, 10, 0, 10, 10, 0, 10) }

// hook is the second profile of the chapter's examples.
func hook() api.Profile { return of(0, 0, 10, 0, 10, 10, 4, 10, 4, 8, 6, 8, 6, 4, 0, 4) }

func same(a, b api.Profile) bool { return a.Name == b.Name && slices.Equal(a.Outline, b.Outline) }

// P39.1, P39.3, P39.4: the examples.
func TestExamples(t *testing.T) {
	if n, e := profile.Area(square()); n != 200 || e != api.OK {
		t.Errorf("Area = %d, %d", n, e)
	}
	if list, e := profile.Directions(square()); !slices.Equal(list, []int{0, 1, 2, 3}) || e != api.OK {
		t.Errorf("Directions = %v, %d", list, e)
	}
	if i, e := profile.Undercut(hook(), api.PlusY); i != 4 || e != api.OK {
		t.Errorf("Undercut = %d, %d", i, e)
	}
	for _, direction := range []int{api.PlusX, api.MinusX, api.MinusY} {
		if i, e := profile.Undercut(hook(), direction); i != 0 || e != api.ErrNone {
			t.Errorf("Undercut = %d, %d", i, e)
		}
	}
	if list, e := profile.Directions(hook()); !slices.Equal(list, []int{0, 1, 3}) || e != api.OK {
		t.Errorf("Directions = %v, %d", list, e)
	}
	stair, e := profile.Step("s", 2, 30, 17)
	if !same(stair, api.Profile{Name: "s", Outline: outline(0, 0, 60, 0, 60, 34, 30, 34, 30, 17, 0, 17)}) || e != api.OK {
		t.Errorf("Step = %v, %d", stair, e)
	}
	if n, e := profile.Waste(square(), 10, 11); n != 20 || e != api.OK {
		t.Errorf("Waste = %d, %d", n, e)
	}
	least, size, e := profile.Bounds(of(-3, 7, 5, 6, 1, 9))
	if least != (api.Point{X: -3, Y: 6}) || size != (api.Point{X: 8, Y: 3}) || e != api.OK {
		t.Errorf("Bounds = %v, %v, %d", least, size, e)
	}
}

// P39.2
func TestCanonical(t *testing.T) {
	for i, c := range []struct {
		p                   api.Profile
		canonical, mirrored api.Polygon
	}{
		{of(-3, 7, 5, 6, 1, 9), outline(8, 0, 4, 3, 0, 1), outline(0, 0, 8, 1, 4, 3)},
		{of(5, 9, 2, 9, 2, 5, 5, 5), outline(0, 0, 3, 0, 3, 4, 0, 4), outline(0, 0, 3, 0, 3, 4, 0, 4)},
		{of(-top, -top, top, -top, top, top), outline(0, 0, 2*top, 0, 2*top, 2*top), outline(0, 0, 2*top, 0, 0, 2*top)},
	} {
		if got, e := profile.Canonical(c.p); !same(got, api.Profile{Name: "p", Outline: c.canonical}) || e != api.OK {
			t.Errorf("Canonical %d = %v, %d", i, got, e)
		}
		if got, e := profile.Mirror(c.p); !same(got, api.Profile{Name: "p", Outline: c.mirrored}) || e != api.OK {
			t.Errorf("Mirror %d = %v, %d", i, got, e)
		}
	}
	moved := of(110, 10, 104, 10, 104, 8, 106, 8, 106, 4, 100, 4, 100, 0, 110, 0)
	moved.Name = "q"
	for i, c := range []struct {
		a, b api.Profile
		want bool
	}{{hook(), moved, true}, {hook(), square(), false}, {of(0, 0, 9, 0, 0, 5), of(0, 0, 9, 0, 9, 5), false}, {square(), of(0, 0, 5, 0, 10, 0, 10, 10, 0, 10), false}} {
		if got, e := profile.Equal(c.a, c.b); got != c.want || e != api.OK {
			t.Errorf("Equal %d = %v, %d", i, got, e)
		}
	}
}

// P39.3: each direction has its own side, and the first edge counts.
func TestUndercut(t *testing.T) {
	// The notch of the comb opens to the right below, and has two undercuts.
	turned := func(p api.Profile) api.Profile {
		q := api.Profile{Name: "p"}
		for _, c := range p.Outline {
			q.Outline = append(q.Outline, api.Point{X: -c.Y, Y: c.X})
		}
		return q
	}
	comb := of(0, 0, 20, 0, 20, 10, 15, 10, 15, 6, 17, 6, 17, 4, 12, 4, 12, 8, 14, 8, 14, 10, 0, 10)
	for i, c := range []struct {
		p         api.Profile
		direction int
		want      int
		e         api.Errno
	}{
		{comb, api.PlusY, 4, api.OK}, {comb, api.PlusX, 0, api.ErrNone}, {comb, api.MinusX, 0, api.ErrNone}, {comb, api.MinusY, 0, api.ErrNone},
		{turned(comb), api.MinusX, 4, api.OK}, {turned(turned(comb)), api.MinusY, 4, api.OK}, {turned(turned(turned(comb))), api.PlusX, 4, api.OK},
		{turned(comb), api.PlusY, 0, api.ErrNone}, {turned(turned(comb)), api.PlusX, 0, api.ErrNone}, {turned(turned(turned(comb))), api.MinusY, 0, api.ErrNone},
		{of(0, 10, 0, 0, 20, 0, 20, 10, 15, 10, 15, 6, 17, 6, 17, 4, 12, 4, 12, 10), api.PlusY, 5, api.OK},
	} {
		if got, e := profile.Undercut(c.p, c.direction); got != c.want || e != c.e {
			t.Errorf("Undercut %d = %d, %d", i, got, e)
		}
	}
}

// P39.1, P1: each error, and which one comes first.
func TestErrors(t *testing.T) {
	type refusal struct {
		p api.Profile
		e api.Errno
	}
	named := func(name string, o api.Polygon) api.Profile { return api.Profile{Name: name, Outline: o} }
	list := []refusal{
		{named("P", nil), api.ErrName}, {named("", outline(0, 0)), api.ErrName}, {named(strings.Repeat("p", 25), square().Outline), api.ErrName},
		{of(), api.ErrInvalid}, {of(0, 0, top+1, 0), api.ErrInvalid}, {named("p", make(api.Polygon, 65)), api.ErrInvalid}, {named("p", make(api.Polygon, 64)), api.ErrDuplicate},
		{of(0, 0, 0, 0, top+1, 0), api.ErrRange}, {of(0, 0, 0, 0, 0, -top-1), api.ErrRange}, {of(0, 0, 1, math.MinInt, 0, math.MaxInt), api.ErrRange},
		{of(0, 0, 5, 5, 5, 5, 0, 5), api.ErrDuplicate}, {of(0, 0, 9, 9, 9, 0, 0, 9, 0, 0), api.ErrDuplicate},
		{of(0, 0, 9, 9, 9, 0, 0, 9), api.ErrOverlap}, {of(0, 0, 9, 0, 5, 0), api.ErrOverlap}, {of(0, 0, 9, 0, 4, 0, 4, 5), api.ErrOverlap}, {of(0, 0, 9, 0, 9, 9, 5, 0, 0, 9), api.ErrOverlap}, {of(0, 0, 4, 0, 4, 4, 0, 0, -4, -4, -4, 0), api.ErrOverlap}, {of(0, 0, 0, 9, 9, 0, 9, 9), api.ErrOverlap},
		{of(0, 0, 0, 9, 9, 9, 9, 0), api.ErrInvalid},
	}
	for i, c := range list {
		least, size, e1 := profile.Bounds(c.p)
		area, e2 := profile.Area(c.p)
		canonical, e3 := profile.Canonical(c.p)
		mirrored, e4 := profile.Mirror(c.p)
		isEqual, e5 := profile.Equal(c.p, api.Profile{})
		_, e6 := profile.Equal(square(), c.p)
		edge, e7 := profile.Undercut(c.p, -1)
		directions, e8 := profile.Directions(c.p)
		waste, e9 := profile.Waste(c.p, 0, 0)
		for k, e := range []api.Errno{profile.Check(c.p), e1, e2, e3, e4, e5, e6, e7, e8, e9} {
			if e != c.e {
				t.Errorf("refusal %d, function %d: %d, want %d", i, k, e, c.e)
			}
		}
		if least != size || size != (api.Point{}) || area != 0 || !same(canonical, api.Profile{}) || !same(mirrored, api.Profile{}) || isEqual || edge != 0 || directions != nil || waste != 0 {
			t.Errorf("refusal %d has results", i)
		}
	}
	for _, n := range []int{-1, 4, math.MaxInt, math.MinInt} {
		if i, e := profile.Undercut(square(), n); i != 0 || e != api.ErrRange {
			t.Errorf("Undercut = %d, %d", i, e)
		}
	}
}

// P39.4
func TestStepErrors(t *testing.T) {
	for i, c := range []struct {
		name               string
		steps, going, rise int
		e                  api.Errno
	}{
		{"S", 0, 0, 0, api.ErrName}, {"", 1, 1, 1, api.ErrName}, {"s", 0, 1, 1, api.ErrRange}, {"s", 32, 1, 1, api.ErrRange}, {"s", math.MinInt, 1, 1, api.ErrRange}, {"s", math.MaxInt, 1, 1, api.ErrRange},
		{"s", 1, 0, 1, api.ErrRange}, {"s", 1, 1, 0, api.ErrRange}, {"s", 1, -1, 1, api.ErrRange}, {"s", 1, top + 1, 1, api.ErrRange}, {"s", 1, 1, top + 1, api.ErrRange}, {"s", 3, 333334, 1, api.ErrRange}, {"s", 3, 1, 333334, api.ErrRange}, {"s", 31, math.MaxInt, math.MaxInt, api.ErrRange},
		{"s", 1, top, top, api.OK}, {"s", 3, 333333, 333333, api.OK}, {"s", 31, 1, 32258, api.OK},
	} {
		p, e := profile.Step(c.name, c.steps, c.going, c.rise)
		if e != c.e || e != api.OK && !same(p, api.Profile{}) || e == api.OK && profile.Check(p) != api.OK {
			t.Errorf("Step %d = %v, %d", i, p, e)
		}
	}
	for i, c := range []struct {
		w, h int
		want int64
		e    api.Errno
	}{
		{0, 10, 0, api.ErrRange}, {10, 0, 0, api.ErrRange}, {2*top + 1, 10, 0, api.ErrRange}, {10, 2*top + 1, 0, api.ErrRange}, {-1, -1, 0, api.ErrRange}, {math.MaxInt, math.MinInt, 0, api.ErrRange},
		{9, 10, 0, api.ErrOutside}, {10, 9, 0, api.ErrOutside}, {10, 10, 0, api.OK}, {2 * top, 2 * top, 8000000000000 - 200, api.OK},
	} {
		if n, e := profile.Waste(square(), c.w, c.h); n != c.want || e != c.e {
			t.Errorf("Waste %d = %d, %d", i, n, e)
		}
	}
}

// random is a star around a point, which is simple, and has undercuts often.
func random(r *rand.Rand) api.Profile {
	var o api.Polygon
	rays := [][2]int{{2, 0}, {2, 1}, {1, 1}, {1, 2}, {0, 2}, {-1, 2}, {-1, 1}, {-2, 1}, {-2, 0}, {-2, -1}, {-1, -1}, {-1, -2}, {0, -2}, {1, -2}, {1, -1}, {2, -1}}
	for _, ray := range rays {
		n := 1 + r.Intn(9)
		o = append(o, api.Point{X: n * ray[0], Y: n * ray[1]})
	}
	k := r.Intn(len(o))
	return api.Profile{Name: "p", Outline: slices.Concat(o[k:], o[:k])}
}

// P39.2, P39.3, P39.5
func TestProperties(t *testing.T) {
	r := rand.New(rand.NewSource(1))
	for range 1000 {
		p := random(r)
		area, e := profile.Area(p)
		c, _ := profile.Canonical(p)
		m, _ := profile.Mirror(p)
		again, _ := profile.Canonical(c)
		twice, _ := profile.Mirror(m)
		areaC, e1 := profile.Area(c)
		areaM, e2 := profile.Area(m)
		if e != api.OK || e1 != api.OK || e2 != api.OK || areaC != area || areaM != area || !same(again, c) || !same(twice, c) {
			t.Fatalf("%v: %v, %v, %d, %d, %d", p, c, m, area, areaC, areaM)
		}
		if isEqual, _ := profile.Equal(p, c); !isEqual {
			t.Fatalf("%v does not equal %v", p, c)
		}
		d, _ := profile.Directions(p)
		dm, _ := profile.Directions(m)
		for direction := range 4 {
			other := []int{1, 0, 2, 3}[direction]
			if slices.Contains(d, direction) != slices.Contains(dm, other) {
				t.Fatalf("%v: %v, mirrored %v", p, d, dm)
			}
			if i, e := profile.Undercut(p, direction); (e == api.ErrNone) != slices.Contains(d, direction) || e == api.OK && !prevents(p, i, direction) {
				t.Fatalf("Undercut(%v, %d) = %d, %d", p, direction, i, e)
			}
		}
	}
	for steps := 1; steps <= 31; steps++ {
		p, e := profile.Step("s", steps, 7, 5)
		area, _ := profile.Area(p)
		d, _ := profile.Directions(p)
		if e != api.OK || area != int64(35*steps*(steps+1)) || len(d) != 4 || len(p.Outline) != 2*steps+2 {
			t.Fatalf("Step(%d) = %v, %d, %d, %v", steps, p, e, area, d)
		}
	}
}

func prevents(p api.Profile, i, direction int) bool {
	a, b := p.Outline[i], p.Outline[(i+1)%len(p.Outline)]
	return []bool{b.Y < a.Y, b.Y > a.Y, b.X > a.X, b.X < a.X}[direction]
}
