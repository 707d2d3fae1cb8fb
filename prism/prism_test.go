package prism_test

import (
	"math"
	"slices"
	"testing"

	"gangsaw/api"
	"gangsaw/prism"
)

const top = api.MaxCoord

func bx(x, y, z, x2, y2, z2 int) api.Box {
	return api.Box{Min: api.Vec{X: x, Y: y, Z: z}, Max: api.Vec{X: x2, Y: y2, Z: z2}}
}

// poly makes a polygon of pairs of coordinates.
func poly(c ...int) api.Polygon {
	var p api.Polygon
	for i := 0; i < len(c); i += 2 {
		p = append(p, api.Point{X: c[i], Y: c[i+1]})
	}
	return p
}

func pr(lo, hi int, c ...int) api.Prism { return api.Prism{Base: poly(c...), Lo: lo, Hi: hi} }

// wedge is the prism of the chapter's examples.
func wedge() api.Prism { return pr(0, 5, 0, 0, 10, 0, 0, 10) }

func same(p, q api.Prism) bool { return slices.Equal(p.Base, q.Base) && p.Lo == q.Lo && p.Hi == q.Hi }

// round is the base with 64 corners on a parabola.
func round() api.Polygon {
	var p api.Polygon
	for i := range api.MaxCorners {
		p = append(p, api.Point{X: 10 * i, Y: i * i})
	}
	return p
}

type refusal struct {
	p api.Prism
	e api.Errno
}

// refusals are prisms that are not valid. Each number is wrong once.
func refusals() []refusal {
	long := api.Prism{Base: append(round(), api.Point{X: -1, Y: 5000}), Lo: 0, Hi: 5}
	longBad := api.Prism{Base: append(round(), api.Point{X: top + 1, Y: 0}), Lo: 5, Hi: top + 1}
	list := []refusal{
		{long, api.ErrTooMany},
		{longBad, api.ErrTooMany},
		{api.Prism{Base: slices.Repeat(poly(1, 1), 3000), Hi: 5}, api.ErrTooMany},
		{api.Prism{}, api.ErrInvalid},
		{pr(0, 5), api.ErrInvalid},
		{pr(0, 5, 1, 1), api.ErrInvalid},
		{pr(0, 5, 1, 1, 5, 5), api.ErrInvalid},
		{pr(0, top+1, 1, 1, 5, 5), api.ErrInvalid},
		{pr(0, 5, top+1, 1, 5, 5), api.ErrInvalid},
		{pr(0, top+1, 0, 0, 10, 0, 0, 10), api.ErrRange},
		{pr(-top-1, 0, 0, 0, 10, 0, 0, 10), api.ErrRange},
		{pr(math.MinInt, math.MaxInt, 0, 0, 10, 0, 0, 10), api.ErrRange},
		{pr(top+1, 5, 0, 0, 10, 0, 0, 10), api.ErrRange},
		{pr(5, -top-1, 0, 0, 10, 0, 0, 10), api.ErrRange},
		{pr(5, top+1, 0, 0, 0, 0, 0, 10), api.ErrRange},
		{pr(5, top+1, 0, 10, 10, 0, 0, 0), api.ErrRange},
		{pr(5, 5, 0, 0, 10, 0, 0, top+1), api.ErrRange},
		{pr(5, 5, 0, 0, 0, 0, 0, -top-1), api.ErrRange},
		{pr(5, 5, 0, 0, 10, 0, 0, 10), api.ErrInvalid},
		{pr(5, 4, 0, 0, 10, 0, 0, 10), api.ErrInvalid},
		{pr(0, 5, 0, 10, 10, 0, 0, 0), api.ErrInvalid},
		{pr(0, 5, 0, 0, 5, 0, 10, 0), api.ErrInvalid},
		{pr(0, 5, 0, 0, 5, 0, 10, 0, 0, 10), api.ErrInvalid},
		{pr(0, 5, 0, 0, 10, 0, 3, 3, 0, 10), api.ErrInvalid},
		{pr(0, 5, 0, 0, 10, 10, 10, 0, 0, 10), api.ErrInvalid},
		{pr(0, 5, 0, 0, 0, 0, 10, 0, 0, 10), api.ErrInvalid},
		{pr(0, 5, 0, 0, 10, 0, 0, 10, 0, 0), api.ErrInvalid},
		{pr(0, 5, 0, 0, 10, 0, 10, 0, 0, 10), api.ErrInvalid},
		{pr(0, 5, 4, 4, 4, 4, 4, 4), api.ErrInvalid},
		// These always turn to the left, but go around twice.
		{pr(0, 5, 0, 0, 10, 0, 0, 10, 0, 0, 10, 0, 0, 10), api.ErrInvalid},
		{pr(0, 5, 0, 30, -20, -25, 28, 10, -28, 10, 20, -25), api.ErrInvalid},
	}
	for i := range 3 {
		for _, c := range []int{top + 1, -top - 1, math.MaxInt, math.MinInt} {
			p, q := wedge(), wedge()
			p.Base[i].X, q.Base[i].Y = c, c
			list = append(list, refusal{p, api.ErrRange}, refusal{q, api.ErrRange})
		}
	}
	return list
}

func badBoxes() []api.Box {
	return []api.Box{
		{}, bx(0, 0, 0, 5, 0, 5), bx(9, 0, 0, 5, 5, 5), bx(0, 0, 7, 5, 5, 6),
		bx(0, 0, 0, 5, 5, top+1), bx(-top-1, 0, 0, 5, 5, 5), bx(0, math.MinInt, 0, 5, 5, 5),
	}
}

// P8.1
func TestCheck(t *testing.T) {
	for _, p := range []api.Prism{
		wedge(),
		pr(-top, top, -top, -top, top, -top, top, top, -top, top),
		pr(top-1, top, -top, -top, top, top, top-1, top),
		pr(0, 1, 5, 5, 6, 5, 5, 6),
		pr(0, 1, 6, 5, 5, 6, 5, 5),
		pr(0, 1, 0, 0, 4, -3, 9, 0, 9, 2, 5, 7, 1, 5),
		{Base: round(), Lo: -1, Hi: 0},
	} {
		if e := prism.Check(p); e != api.OK {
			t.Errorf("Check(%v) = %d", p, e)
		}
	}
	for _, c := range refusals() {
		if e := prism.Check(c.p); e != c.e {
			t.Errorf("Check(%v) = %d, want %d", c.p, e, c.e)
		}
	}
}

// P8.1
func TestHullAndArea(t *testing.T) {
	for _, c := range []struct {
		p    api.Prism
		hull api.Box
		area int64
	}{
		{wedge(), bx(0, 0, 0, 10, 10, 5), 100},
		{pr(-7, 9, 3, -4, 8, 1, 5, 12, -6, 2), bx(-6, -4, -7, 8, 12, 9), 226},
		{pr(-top, top, -top, -top, top, -top, top, top, -top, top), bx(-top, -top, -top, top, top, top), 8 * top * top},
		{api.Prism{Base: round(), Lo: 1, Hi: 2}, bx(0, 0, 1, 630, 3969, 2), 833280},
	} {
		if got, e := prism.Hull(c.p); got != c.hull || e != api.OK {
			t.Errorf("Hull(%v) = %v, %d", c.p, got, e)
		}
		if got, e := prism.Area2(c.p); got != c.area || e != api.OK {
			t.Errorf("Area2(%v) = %d, %d", c.p, got, e)
		}
	}
}

// P8.2, P8.3
func TestBoxes(t *testing.T) {
	thin := pr(0, 5, 0, 0, 10, 9, 11, 10, 1, 1)
	for _, c := range []struct {
		p         api.Prism
		b         api.Box
		separator int
		overlaps  bool
		covers    bool
	}{
		{wedge(), bx(5, 5, 0, 9, 9, 5), 1, false, false},
		{wedge(), bx(4, 5, 0, 9, 9, 5), -1, true, false},
		{wedge(), bx(1, 1, 1, 4, 4, 2), -1, true, true},
		{wedge(), bx(1, 1, 1, 6, 6, 2), -1, true, false},
		{wedge(), bx(-5, 3, 0, 0, 4, 5), 2, false, false},
		{wedge(), bx(3, -5, 0, 4, 0, 5), 0, false, false},
		{wedge(), bx(-5, -5, 0, 0, 0, 5), 0, false, false},
		{wedge(), bx(-5, 10, 0, 20, 12, 5), 1002, false, false},
		{wedge(), bx(10, -5, 0, 12, 20, 5), 1000, false, false},
		{wedge(), bx(0, 0, 0, 5, 5, 5), -1, true, true},
		{wedge(), bx(0, 0, 0, 5, 6, 5), -1, true, false},
		{wedge(), bx(0, 0, -1, 5, 5, 5), -1, true, false},
		{wedge(), bx(0, 0, 0, 5, 5, 6), -1, true, false},
		{wedge(), bx(0, 0, 5, 5, 5, 6), -1, false, false},
		{wedge(), bx(0, 0, -6, 5, 5, 0), -1, false, false},
		{wedge(), bx(0, 0, 4, 5, 5, 9), -1, true, false},
		{wedge(), bx(-9, -9, -9, 20, 20, 20), -1, true, false},
		{wedge(), bx(-1, 0, 0, 5, 5, 5), -1, true, false},
		{wedge(), bx(0, -1, 0, 5, 5, 5), -1, true, false},
		{thin, bx(12, 0, 0, 20, 20, 5), 1000, false, false},
		{thin, bx(-9, -9, 0, 0, 20, 5), 1001, false, false},
		{thin, bx(0, 10, 0, 20, 12, 5), 1002, false, false},
		{thin, bx(-9, -9, 0, 20, 0, 5), 1003, false, false},
		{thin, bx(11, 10, 0, 20, 20, 5), 1000, false, false},
		{thin, bx(5, 0, 0, 9, 4, 5), 0, false, false},
		{thin, bx(0, 5, 0, 4, 9, 5), 2, false, false},
		{thin, bx(5, 5, 0, 6, 6, 5), -1, true, false},
		{pr(0, 5, 0, 0, 100, 0, 100, 100, 0, 100), bx(0, 0, 0, 100, 100, 5), -1, true, true},
		{pr(0, 5, 0, 0, 100, 0, 100, 100, 0, 100), bx(100, 0, 0, 101, 100, 5), 1, false, false},
	} {
		if got, e := prism.Separator(c.p, c.b); got != c.separator || e != api.OK {
			t.Errorf("Separator(%v, %v) = %d, %d, want %d", c.p, c.b, got, e, c.separator)
		}
		if got, e := prism.Overlaps(c.p, c.b); got != c.overlaps || e != api.OK {
			t.Errorf("Overlaps(%v, %v) = %v, %d", c.p, c.b, got, e)
		}
		if got, e := prism.Covers(c.p, c.b); got != c.covers || e != api.OK {
			t.Errorf("Covers(%v, %v) = %v, %d", c.p, c.b, got, e)
		}
	}
}

// P8.2
func TestMeets(t *testing.T) {
	for _, c := range []struct {
		q    api.Prism
		want bool
	}{
		{wedge(), true},
		{pr(0, 5, 10, 10, 0, 10, 10, 0), false},
		{pr(0, 5, 10, 9, 0, 10, 10, 0), false},
		{pr(0, 5, 10, 9, 0, 10, 9, 0), true},
		{pr(0, 5, 2, 2, 3, 2, 2, 3), true},
		{pr(1, 2, 2, 2, 3, 2, 2, 3), true},
		{pr(-9, 20, -100, -100, 200, -100, -100, 200), true},
		{pr(5, 9, 0, 0, 10, 0, 0, 10), false},
		{pr(-5, 0, 0, 0, 10, 0, 0, 10), false},
		{pr(4, 9, 0, 0, 10, 0, 0, 10), true},
		{pr(-5, 1, 0, 0, 10, 0, 0, 10), true},
		{pr(0, 5, 0, 0, -10, 0, 0, -10), false},
		{pr(0, 5, 10, 0, 20, -1, 20, 1), false},
		{pr(0, 5, 9, 0, 20, -1, 20, 1), true},
		{pr(0, 5, 4, -1, 5, -1, 30, 30), true},
		{pr(0, 5, -1, -9, 12, -1, 12, 0, 11, 0), false},
		{pr(0, 5, 20, 20, 30, 20, 20, 30), false},
	} {
		for _, p := range [][2]api.Prism{{wedge(), c.q}, {c.q, wedge()}} {
			if got, e := prism.Meets(p[0], p[1]); got != c.want || e != api.OK {
				t.Errorf("Meets(%v, %v) = %v, %d, want %v", p[0], p[1], got, e, c.want)
			}
		}
	}
}

// P8.4
func TestOf(t *testing.T) {
	for _, c := range []struct {
		b    api.Box
		want api.Prism
	}{
		{bx(1, 2, 3, 10, 20, 30), pr(3, 30, 1, 2, 10, 2, 10, 20, 1, 20)},
		{bx(-top, -top, -top, top, top, top), pr(-top, top, -top, -top, top, -top, top, top, -top, top)},
	} {
		if got, e := prism.Of(c.b); !same(got, c.want) || e != api.OK {
			t.Errorf("Of(%v) = %v, %d", c.b, got, e)
		}
	}
	for _, b := range badBoxes() {
		if got, e := prism.Of(b); !same(got, api.Prism{}) || e != api.ErrInvalid {
			t.Errorf("Of(%v) = %v, %d", b, got, e)
		}
	}
}

// P8.4
func TestMove(t *testing.T) {
	for _, c := range []struct {
		p    api.Prism
		by   api.Vec
		want api.Prism
		e    api.Errno
	}{
		{wedge(), api.Vec{}, wedge(), api.OK},
		{wedge(), api.Vec{X: 1, Y: -2, Z: 3}, pr(3, 8, 1, -2, 11, -2, 1, 8), api.OK},
		{wedge(), api.Vec{X: top - 10, Y: -top, Z: top - 5}, pr(top-5, top, top-10, -top, top, -top, top-10, 10-top), api.OK},
		{pr(-top, 0, -top, 0, 0, 0, -top, 5), api.Vec{X: top, Y: top - 5, Z: top}, pr(0, top, 0, top-5, top, top-5, 0, top), api.OK},
		{wedge(), api.Vec{X: top - 9}, api.Prism{}, api.ErrRange},
		{wedge(), api.Vec{Y: top - 9}, api.Prism{}, api.ErrRange},
		{wedge(), api.Vec{Z: top - 4}, api.Prism{}, api.ErrRange},
		{pr(-1, 5, 0, 0, 10, 0, 0, 10), api.Vec{Z: -top}, api.Prism{}, api.ErrRange},
		{pr(0, 5, -1, 0, 10, 0, 0, 10), api.Vec{X: -top}, api.Prism{}, api.ErrRange},
		{pr(0, 5, 0, -1, 10, 0, 0, 10), api.Vec{Y: -top}, api.Prism{}, api.ErrRange},
		{pr(-top, -5, -top, -top, -9, -top, -top, -9), api.Vec{X: top + 1}, api.Prism{}, api.ErrRange},
		{pr(-top, -5, -top, -top, -9, -top, -top, -9), api.Vec{Y: top + 1}, api.Prism{}, api.ErrRange},
		{pr(-top, -5, -top, -top, -9, -top, -top, -9), api.Vec{Z: top + 1}, api.Prism{}, api.ErrRange},
		{pr(5, top, 5, 5, 9, 5, 5, 9), api.Vec{Z: -top - 1}, api.Prism{}, api.ErrRange},
		{wedge(), api.Vec{X: math.MaxInt}, api.Prism{}, api.ErrRange},
		{wedge(), api.Vec{Y: math.MinInt}, api.Prism{}, api.ErrRange},
		{wedge(), api.Vec{Z: math.MaxInt}, api.Prism{}, api.ErrRange},
	} {
		if got, e := prism.Move(c.p, c.by); !same(got, c.want) || e != c.e {
			t.Errorf("Move(%v, %v) = %v, %d, want %v, %d", c.p, c.by, got, e, c.want, c.e)
		}
	}
}

// P8.4
func TestSlice(t *testing.T) {
	for _, c := range []struct {
		lo, hi int
		want   api.Prism
		e      api.Errno
	}{
		{0, 5, wedge(), api.OK},
		{-9, 9, wedge(), api.OK},
		{math.MinInt, math.MaxInt, wedge(), api.OK},
		{1, 4, pr(1, 4, 0, 0, 10, 0, 0, 10), api.OK},
		{-9, 1, pr(0, 1, 0, 0, 10, 0, 0, 10), api.OK},
		{4, top + 9, pr(4, 5, 0, 0, 10, 0, 0, 10), api.OK},
		{5, 9, api.Prism{}, api.ErrNone},
		{-9, 0, api.Prism{}, api.ErrNone},
		{7, 9, api.Prism{}, api.ErrNone},
		{math.MinInt, -5, api.Prism{}, api.ErrNone},
		{3, 3, api.Prism{}, api.ErrInvalid},
		{4, 3, api.Prism{}, api.ErrInvalid},
		{9, 8, api.Prism{}, api.ErrInvalid},
		{math.MaxInt, math.MinInt, api.Prism{}, api.ErrInvalid},
	} {
		if got, e := prism.Slice(wedge(), c.lo, c.hi); !same(got, c.want) || e != c.e {
			t.Errorf("Slice(%d, %d) = %v, %d, want %v, %d", c.lo, c.hi, got, e, c.want, c.e)
		}
	}
}

// P1: a prism is checked before a second one, and before a box and what else is wrong.
func TestRefusals(t *testing.T) {
	good := bx(0, 0, 0, 1, 1, 1)
	for _, c := range refusals() {
		if b, e := prism.Hull(c.p); b != (api.Box{}) || e != c.e {
			t.Errorf("Hull(%v) = %v, %d, want %d", c.p, b, e, c.e)
		}
		if n, e := prism.Area2(c.p); n != 0 || e != c.e {
			t.Errorf("Area2(%v) = %d, %d, want %d", c.p, n, e, c.e)
		}
		if p, e := prism.Move(c.p, api.Vec{X: top + 1}); !same(p, api.Prism{}) || e != c.e {
			t.Errorf("Move(%v) = %v, %d, want %d", c.p, p, e, c.e)
		}
		if p, e := prism.Slice(c.p, 5, 3); !same(p, api.Prism{}) || e != c.e {
			t.Errorf("Slice(%v) = %v, %d, want %d", c.p, p, e, c.e)
		}
		checkRefusalWithBox(t, c.p, good, c.e)
		for _, b := range badBoxes() {
			checkRefusalWithBox(t, c.p, b, c.e)
		}
		checkRefusalOfPair(t, c.p, wedge(), c.e)
		checkRefusalOfPair(t, wedge(), c.p, c.e)
		for _, d := range refusals() {
			checkRefusalOfPair(t, c.p, d.p, c.e)
		}
	}
	for _, b := range badBoxes() {
		checkRefusalWithBox(t, wedge(), b, api.ErrInvalid)
	}
}

func checkRefusalWithBox(t *testing.T, p api.Prism, b api.Box, want api.Errno) {
	if ok, e := prism.Overlaps(p, b); ok || e != want {
		t.Errorf("Overlaps(%v, %v) = %v, %d, want %d", p, b, ok, e, want)
	}
	if ok, e := prism.Covers(p, b); ok || e != want {
		t.Errorf("Covers(%v, %v) = %v, %d, want %d", p, b, ok, e, want)
	}
	if n, e := prism.Separator(p, b); n != 0 || e != want {
		t.Errorf("Separator(%v, %v) = %d, %d, want %d", p, b, n, e, want)
	}
}

func checkRefusalOfPair(t *testing.T, p, q api.Prism, want api.Errno) {
	if ok, e := prism.Meets(p, q); ok || e != want {
		t.Errorf("Meets(%v, %v) = %v, %d, want %d", p, q, ok, e, want)
	}
}

// P1: results share no memory with arguments.
func TestMemory(t *testing.T) {
	p := wedge()
	moved, _ := prism.Move(p, api.Vec{})
	part, _ := prism.Slice(p, 1, 2)
	moved.Base[0].X, part.Base[1].X = 77, 77
	_ = append(part.Base[:2], api.Point{X: 55, Y: 55})
	if !same(p, wedge()) {
		t.Errorf("the argument is changed: %v", p)
	}
}
