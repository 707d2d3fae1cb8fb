package polygon_test

import (
	"math"
	"math/rand"
	"slices"
	"testing"

	"gangsaw/api"
	"gangsaw/polygon"
	"gangsaw/vector"
)

const top = api.MaxCoord

func pt(x, y int) api.Point { return api.Point{X: x, Y: y} }

// poly makes a polygon of pairs of coordinates.
func poly(c ...int) api.Polygon {
	var p api.Polygon
	for i := 0; i < len(c); i += 2 {
		p = append(p, pt(c[i], c[i+1]))
	}
	return p
}

func square() api.Polygon { return poly(0, 0, 10, 0, 10, 10, 0, 10) }

func bowTie() api.Polygon { return poly(0, 0, 10, 10, 10, 0, 0, 10) }

// star has a left turn at every corner, and goes around twice.
func star() api.Polygon { return poly(0, 30, -20, -25, 28, 10, -28, 10, 20, -25) }

// round is a convex polygon with n corners, counterclockwise: n is a multiple of 4.
func round(n int) api.Polygon {
	var steps []api.Point
	for i := range n / 4 {
		steps = append(steps, pt(n-4*i, 4*i+1))
	}
	for _, turn := range []func(p api.Point) api.Point{
		func(p api.Point) api.Point { return pt(-p.Y, p.X) },
		func(p api.Point) api.Point { return pt(-p.X, -p.Y) },
		func(p api.Point) api.Point { return pt(p.Y, -p.X) },
	} {
		for i := range n / 4 {
			steps = append(steps, turn(steps[i]))
		}
	}
	var p api.Polygon
	at := pt(0, 0)
	for _, s := range steps {
		p = append(p, at)
		at = pt(at.X+s.X, at.Y+s.Y)
	}
	return p
}

// P5.1
func TestOrient(t *testing.T) {
	for _, c := range []struct {
		a, b, c api.Point
		want    int
	}{
		{pt(0, 0), pt(10, 0), pt(5, 1), 1},
		{pt(0, 0), pt(10, 0), pt(5, -1), -1},
		{pt(0, 0), pt(10, 0), pt(15, 0), 0},
		{pt(0, 0), pt(0, 0), pt(15, 3), 0},
		{pt(-top, -top), pt(top, top), pt(top-1, top), 1},
		{pt(-top, -top), pt(top, top), pt(top, top-1), -1},
		{pt(-top, top), pt(top, -top), pt(0, 0), 0},
	} {
		if got := polygon.Orient(c.a, c.b, c.c); got != c.want {
			t.Errorf("Orient(%v, %v, %v) = %d", c.a, c.b, c.c, got)
		}
	}
	// Unspecified, but no panic.
	polygon.Orient(pt(math.MinInt, math.MaxInt), pt(math.MaxInt, math.MinInt), pt(math.MinInt, math.MinInt))
}

type refusal struct {
	p api.Polygon
	e api.Errno
}

// refusals are polygons with the first error of Check.
func refusals() []refusal {
	long := round(68)[:65]
	longBad := slices.Clone(long)
	longBad[3], longBad[10] = pt(top+1, 0), longBad[11]
	list := []refusal{
		{nil, api.ErrInvalid},
		{poly(), api.ErrInvalid},
		{poly(1, 1), api.ErrInvalid},
		{poly(1, 1, 2, 2), api.ErrInvalid},
		{poly(1, 1, 1, 1), api.ErrInvalid},
		{poly(top+1, 1, 2, 2), api.ErrInvalid},
		{long, api.ErrTooMany},
		{longBad, api.ErrTooMany},
		{slices.Repeat(poly(7, 7), 5000), api.ErrTooMany},
		{poly(0, 0, 0, 0, 5, 5), api.ErrDuplicate},
		{poly(0, 0, 5, 5, 5, 5), api.ErrDuplicate},
		{poly(0, 0, 5, 5, 0, 0), api.ErrDuplicate},
		{poly(0, 0, 0, 0, 0, 0), api.ErrDuplicate},
		{poly(0, 0, 5, 0, 5, 5, 5, 5, 0, 5), api.ErrDuplicate},
		{poly(0, 0, 0, 0, 5, top+1), api.ErrRange},
	}
	for i := range 3 {
		for _, c := range []int{top + 1, -top - 1, math.MaxInt, math.MinInt} {
			p, q := poly(0, 0, 9, 0, 0, 9), poly(0, 0, 9, 0, 0, 9)
			p[i].X, q[i].Y = c, c
			list = append(list, refusal{p, api.ErrRange}, refusal{q, api.ErrRange})
		}
	}
	return list
}

// P5.1, P1: the errors that all functions of polygons have, in the order of the table.
func TestRefusals(t *testing.T) {
	for _, c := range refusals() {
		if e := polygon.Check(c.p); e != c.e {
			t.Errorf("Check(%v) = %d, want %d", c.p, e, c.e)
		}
		if n, e := polygon.Area2(c.p); n != 0 || e != c.e {
			t.Errorf("Area2(%v) = %d, %d", c.p, n, e)
		}
		if ok, e := polygon.Simple(c.p); ok || e != c.e {
			t.Errorf("Simple(%v) = %v, %d", c.p, ok, e)
		}
		if ok, e := polygon.Convex(c.p); ok || e != c.e {
			t.Errorf("Convex(%v) = %v, %d", c.p, ok, e)
		}
		if n, e := polygon.Side(c.p, pt(1, 1)); n != 0 || e != c.e {
			t.Errorf("Side(%v) = %d, %d", c.p, n, e)
		}
		if q, e := polygon.Canonical(c.p); len(q) != 0 || e != c.e {
			t.Errorf("Canonical(%v) = %v, %d", c.p, q, e)
		}
		if lo, hi, e := polygon.Bounds(c.p); lo != pt(0, 0) || hi != pt(0, 0) || e != c.e {
			t.Errorf("Bounds(%v) = %v, %v, %d", c.p, lo, hi, e)
		}
	}
}

// P5.2, P1: the point of Side is checked with the corners, before neighbours.
func TestRefusalsOfSide(t *testing.T) {
	for _, q := range []api.Point{pt(top+1, 0), pt(0, -top-1), pt(math.MinInt, 0), pt(0, math.MaxInt)} {
		for _, c := range []refusal{
			{square(), api.ErrRange},
			{poly(0, 0, 0, 0, 5, 5), api.ErrRange},
			{bowTie(), api.ErrRange},
			{poly(0, 0, 5, 5), api.ErrInvalid},
			{slices.Repeat(poly(7, 7), 65), api.ErrTooMany},
		} {
			if n, e := polygon.Side(c.p, q); n != 0 || e != c.e {
				t.Errorf("Side(%v, %v) = %d, %d, want %d", c.p, q, n, e, c.e)
			}
		}
	}
	for _, p := range []api.Polygon{bowTie(), star(), poly(0, 0, 5, 0, 2, 0), poly(0, 0, 4, 0, 4, 4, 2, 0)} {
		for _, q := range []api.Point{pt(0, 0), pt(1, 1), pt(99, 99)} {
			if n, e := polygon.Side(p, q); n != 0 || e != api.ErrConflict {
				t.Errorf("Side(%v, %v) = %d, %d", p, q, n, e)
			}
		}
		if q, e := polygon.Canonical(p); len(q) != 0 || e != api.ErrConflict {
			t.Errorf("Canonical(%v) = %v, %d", p, q, e)
		}
	}
}

// P5.1, P5.2
func TestShapes(t *testing.T) {
	for _, c := range []struct {
		name           string
		p              api.Polygon
		area           int64
		simple, convex bool
		lo, hi         api.Point
	}{
		{"square", square(), 200, true, true, pt(0, 0), pt(10, 10)},
		{"clockwise square", polygon.Reverse(square()), -200, true, false, pt(0, 0), pt(10, 10)},
		{"bow tie", bowTie(), 0, false, false, pt(0, 0), pt(10, 10)},
		{"star", star(), 2760, false, false, pt(-28, -25), pt(28, 30)},
		{"triangle", poly(-3, 5, 4, -7, 2, 9), 88, true, true, pt(-3, -7), pt(4, 9)},
		{"a corner on a straight side", poly(0, 0, 5, 0, 10, 0, 10, 10), 100, true, false, pt(0, 0), pt(10, 10)},
		{"arrow", poly(0, 0, 10, 0, 3, 3, 0, 10), 60, true, false, pt(0, 0), pt(10, 10)},
		{"all on a line", poly(0, 0, 5, 0, 2, 0), 0, false, false, pt(0, 0), pt(5, 0)},
		{"there and back", poly(0, 0, 5, 0, 9, 4, 5, 0), 0, false, false, pt(0, 0), pt(9, 4)},
		{"a side on a side", poly(0, 0, 10, 0, 10, 5, 5, 5, 5, 0, 3, 0, 3, 5, 0, 5), 80, false, false, pt(0, 0), pt(10, 5)},
		{"a corner on a side", poly(0, 0, 10, 0, 10, 5, 5, 0, 0, 5), 50, false, false, pt(0, 0), pt(10, 5)},
		{"a corner met twice", poly(0, 0, 5, 0, 5, 5, 9, 5, 9, 9, 5, 9, 5, 5, 0, 5), 82, false, false, pt(0, 0), pt(9, 9)},
		{"a neighbour that turns back", poly(0, 0, 10, 0, 4, 0, 4, 6), 24, false, false, pt(0, 0), pt(10, 6)},
		{"the last side turns back", poly(4, 0, 4, 6, 0, 0, 10, 0), 24, false, false, pt(0, 0), pt(10, 6)},
		{"twice around a triangle", poly(0, 0, 9, 0, 0, 9, 0, 0, 9, 0, 0, 9), 162, false, false, pt(0, 0), pt(9, 9)},
		{"all of the plane", poly(-top, -top, top, -top, top, top, -top, top), 8 * top * top, true, true, pt(-top, -top), pt(top, top)},
		{"a needle", poly(-top, -top, top, top, top-1, top), 2 * top, true, true, pt(-top, -top), pt(top, top)},
	} {
		if n, e := polygon.Area2(c.p); n != c.area || e != api.OK {
			t.Errorf("%s: Area2 = %d, %d", c.name, n, e)
		}
		if ok, e := polygon.Simple(c.p); ok != c.simple || e != api.OK {
			t.Errorf("%s: Simple = %v, %d", c.name, ok, e)
		}
		if ok, e := polygon.Convex(c.p); ok != c.convex || e != api.OK {
			t.Errorf("%s: Convex = %v, %d", c.name, ok, e)
		}
		if lo, hi, e := polygon.Bounds(c.p); lo != c.lo || hi != c.hi || e != api.OK {
			t.Errorf("%s: Bounds = %v, %v, %d", c.name, lo, hi, e)
		}
	}
}

// P5.1, P5.2: as many corners as there may be.
func TestManyCorners(t *testing.T) {
	p := round(api.MaxCorners)
	if e := polygon.Check(p); len(p) != api.MaxCorners || e != api.OK {
		t.Fatalf("Check of %d corners: %d", len(p), e)
	}
	if ok, e := polygon.Convex(p); !ok || e != api.OK {
		t.Errorf("Convex = %v, %d", ok, e)
	}
	if ok, e := polygon.Convex(polygon.Reverse(p)); ok || e != api.OK {
		t.Errorf("Convex of the reverse = %v, %d", ok, e)
	}
	hull, e := polygon.Hull(p)
	if want, _ := polygon.Canonical(p); !slices.Equal(hull, want) || e != api.OK {
		t.Errorf("Hull = %v, %d", hull, e)
	}
}

// P5.2
func TestSide(t *testing.T) {
	comb := poly(0, 0, 10, 0, 10, 6, 8, 2, 6, 6, 4, 2, 2, 6)
	for _, c := range []struct {
		p    api.Polygon
		q    api.Point
		want int
	}{
		{square(), pt(5, 5), 1},
		{square(), pt(10, 5), 0},
		{square(), pt(11, 5), -1},
		{square(), pt(-1, 5), -1},
		{square(), pt(5, -1), -1},
		{square(), pt(5, 11), -1},
		{square(), pt(0, 0), 0},
		{square(), pt(10, 10), 0},
		{square(), pt(-5, 0), -1},
		{square(), pt(-5, 10), -1},
		{square(), pt(15, 10), -1},
		{square(), pt(1, 9), 1},
		{comb, pt(0, 2), -1},
		{comb, pt(1, 2), 1},
		{comb, pt(4, 2), 0},
		{comb, pt(5, 2), 1},
		{comb, pt(9, 2), 1},
		{comb, pt(4, 3), -1},
		{comb, pt(2, 5), 1},
		{comb, pt(1, 6), -1},
		{comb, pt(5, 6), -1},
		{comb, pt(-1, 0), -1},
		{poly(-top, -top, top, -top, top, top, -top, top), pt(top, top), 0},
		{poly(-top, -top, top, -top, top, top, -top, top), pt(top-1, 1-top), 1},
		{poly(-top, -top, top, top, top-1, top), pt(0, 0), 0},
		{poly(-top, -top, top, top, top-1, top), pt(0, 1), -1},
	} {
		for _, p := range []api.Polygon{c.p, polygon.Reverse(c.p)} {
			if got, e := polygon.Side(p, c.q); got != c.want || e != api.OK {
				t.Errorf("Side(%v, %v) = %d, %d, want %d", p, c.q, got, e, c.want)
			}
		}
	}
}

// P5.3
func TestHull(t *testing.T) {
	for _, c := range []struct{ list, want api.Polygon }{
		{poly(0, 0, 4, 0, 2, 0, 2, 1, 2, 5), poly(0, 0, 4, 0, 2, 5)},
		{poly(2, 5, 2, 1, 2, 0, 4, 0, 0, 0), poly(0, 0, 4, 0, 2, 5)},
		{poly(0, 0, 10, 0, 10, 10, 0, 10), square()},
		{poly(10, 10, 0, 0, 0, 10, 10, 0, 5, 5, 5, 0, 0, 5, 10, 10, 0, 0, 10, 5, 5, 10), square()},
		{poly(0, 3, 0, 0, 3, 0), poly(0, 0, 3, 0, 0, 3)},
		{poly(1, 0, 0, 1, -1, 0, 0, -1), poly(-1, 0, 0, -1, 1, 0, 0, 1)},
		{poly(-top, -top, top, top, top-1, top), poly(-top, -top, top, top, top-1, top)},
		{poly(-top, -top, top, top, -top, top, top, -top, 0, 0), poly(-top, -top, top, -top, top, top, -top, top)},
	} {
		if got, e := polygon.Hull(c.list); !slices.Equal(got, c.want) || e != api.OK {
			t.Errorf("Hull(%v) = %v, %d, want %v", c.list, got, e, c.want)
		}
	}
}

// P5.3, P1
func TestErrorsOfHull(t *testing.T) {
	line := make([]api.Point, polygon.MaxPoints)
	for i := range line {
		line[i] = pt(2*i, 3*i)
	}
	most := append(slices.Clone(line[:polygon.MaxPoints-1]), pt(0, 1))
	far := pt(2*(polygon.MaxPoints-2), 3*(polygon.MaxPoints-2))
	if got, e := polygon.Hull(most); e != api.OK || !slices.Equal(got, api.Polygon{pt(0, 0), far, pt(0, 1)}) {
		t.Errorf("Hull of %d points: %v, %d", len(most), got, e)
	}
	for _, c := range []struct {
		list []api.Point
		e    api.Errno
	}{
		{nil, api.ErrNone},
		{[]api.Point{}, api.ErrNone},
		{poly(3, 3), api.ErrNone},
		{poly(3, 3, 3, 3, 3, 3), api.ErrNone},
		{poly(3, 3, 5, 5), api.ErrNone},
		{poly(0, 0, 1, 1, 2, 2), api.ErrNone},
		{poly(2, 2, 0, 0, 1, 1, 0, 0), api.ErrNone},
		{poly(0, 5, 0, 1, 0, 9), api.ErrNone},
		{line, api.ErrNone},
		{append(most, pt(5, 5)), api.ErrTooMany},
		{append(most, pt(top+1, 5)), api.ErrTooMany},
		{poly(0, 0, 5, 0, 0, top+1), api.ErrRange},
		{poly(-top-1, 0, 5, 0, 0, 1), api.ErrRange},
		{poly(0, math.MinInt), api.ErrRange},
		{poly(math.MaxInt, 0, 1, 1), api.ErrRange},
	} {
		if got, e := polygon.Hull(c.list); len(got) != 0 || e != c.e {
			t.Errorf("Hull of %d points: %v, %d, want %d", len(c.list), got, e, c.e)
		}
	}
}

// P5.3: the hull may have more corners than a polygon may.
func TestGreatHull(t *testing.T) {
	p := round(400)
	got, e := polygon.Hull(p)
	least := slices.Index(p, slices.MinFunc(p, func(a, b api.Point) int { return 10000*(a.X-b.X) + a.Y - b.Y }))
	if want := slices.Concat(p[least:], p[:least]); e != api.OK || !slices.Equal(got, want) {
		t.Errorf("Hull = %v, %d, want %v", got, e, want)
	}
}

// P5.1: any polygon may be reversed.
func TestReverse(t *testing.T) {
	for _, c := range []struct{ p, want api.Polygon }{
		{nil, nil},
		{poly(), nil},
		{poly(1, 2), poly(1, 2)},
		{poly(1, 2, 3, 4), poly(3, 4, 1, 2)},
		{poly(1, 2, 3, 4, 5, 6), poly(5, 6, 3, 4, 1, 2)},
		{poly(1, 2, 3, 4, 5, 6, 5, 6), poly(5, 6, 5, 6, 3, 4, 1, 2)},
		{poly(math.MaxInt, 2, 3, math.MinInt), poly(3, math.MinInt, math.MaxInt, 2)},
	} {
		if got := polygon.Reverse(c.p); !slices.Equal(got, c.want) {
			t.Errorf("Reverse(%v) = %v", c.p, got)
		}
	}
	if got := polygon.Reverse(round(400)); len(got) != 400 || got[0] != round(400)[399] {
		t.Errorf("Reverse of 400 corners")
	}
}

// P5.4
func TestCanonical(t *testing.T) {
	for _, c := range []struct{ p, want api.Polygon }{
		{poly(10, 10, 10, 0, 0, 0, 0, 10), square()},
		{square(), square()},
		{poly(0, 10, 0, 0, 10, 0, 10, 10), square()},
		{poly(0, 10, 10, 10, 10, 0, 0, 0), square()},
		{poly(5, 0, 10, 0, 10, 10, 0, 10, 0, 0), poly(0, 0, 5, 0, 10, 0, 10, 10, 0, 10)},
		{poly(3, 3, 0, 5, 1, 9), poly(0, 5, 3, 3, 1, 9)},
		{poly(1, 9, 0, 5, 3, 3), poly(0, 5, 3, 3, 1, 9)},
	} {
		if got, e := polygon.Canonical(c.p); !slices.Equal(got, c.want) || e != api.OK {
			t.Errorf("Canonical(%v) = %v, %d, want %v", c.p, got, e, c.want)
		}
	}
}

// P1: results share no memory with arguments.
func TestMemory(t *testing.T) {
	base := poly(0, 0, 10, 0, 10, 10, 0, 10, 99, 99)
	p := base[:4]
	for range 2 {
		canonical, _ := polygon.Canonical(p)
		hull, _ := polygon.Hull(p)
		for _, q := range []api.Polygon{canonical, hull, polygon.Reverse(p)} {
			for i := range q {
				q[i] = pt(77, 77)
			}
			_ = append(q, pt(55, 55))
		}
	}
	if !slices.Equal(base, poly(0, 0, 10, 0, 10, 10, 0, 10, 99, 99)) {
		t.Errorf("the argument is changed: %v", base)
	}
}

func somePolygon(r *rand.Rand) api.Polygon {
	size := 3 + r.Intn(6)
	p := make(api.Polygon, 3+r.Intn(5))
	for i := range p {
		p[i] = pt(r.Intn(size), r.Intn(size))
	}
	return p
}

// simpleByEnds reports whether a polygon is simple: no end of a side lies on another side, and no two sides cross within.
func simpleByEnds(p api.Polygon) bool {
	n := len(p)
	on := func(i, k int) bool {
		ok, _ := vector.On(p[i], p[(i+1)%n], p[k])
		return ok
	}
	turn := func(i, k int) int {
		s, _ := vector.Turn(p[i], p[(i+1)%n], p[k])
		return s
	}
	for i := range n {
		for k := range n {
			if k != i && k != (i+1)%n && on(i, k) {
				return false
			}
			if turn(i, k)*turn(i, (k+1)%n) < 0 && turn(k, i)*turn(k, (i+1)%n) < 0 {
				return false
			}
		}
	}
	return true
}

// sideByRay counts the sides that meet a segment from q to far away, which passes no other grid point.
func sideByRay(p api.Polygon, q api.Point) int {
	meets := 0
	for i, a := range p {
		b := p[(i+1)%len(p)]
		if on, _ := vector.On(a, b, q); on {
			return 0
		}
		n, _ := vector.Meet(a, b, q, pt(q.X-1, q.Y+1000))
		meets += n
	}
	return meets%2*2 - 1
}

// P5.2, P5.4, P5.5: small polygons, compared with other definitions.
func TestSmallPolygons(t *testing.T) {
	r := rand.New(rand.NewSource(1))
	seen := map[bool]int{}
	convex := 0
	for range 40000 {
		p := somePolygon(r)
		if polygon.Check(p) != api.OK {
			continue
		}
		want := simpleByEnds(p)
		seen[want]++
		if got, e := polygon.Simple(p); got != want || e != api.OK {
			t.Fatalf("Simple(%v) = %v, %d", p, got, e)
		}
		left := want
		for i := range p {
			left = left && polygon.Orient(p[i], p[(i+1)%len(p)], p[(i+2)%len(p)]) == 1
		}
		if got, e := polygon.Convex(p); got != left || e != api.OK {
			t.Fatalf("Convex(%v) = %v, %d", p, got, e)
		}
		if left {
			convex++
		}
		area, _ := polygon.Area2(p)
		if back, _ := polygon.Area2(polygon.Reverse(p)); back != -area {
			t.Fatalf("Area2 of %v and of its reverse: %d, %d", p, area, back)
		}
		if want {
			checkPoints(t, p, area)
			checkCanonical(t, p)
		}
	}
	if seen[true] < 1000 || seen[false] < 1000 || convex < 500 {
		t.Errorf("seen: %v, %d convex", seen, convex)
	}
}

// checkPoints compares the sides of points of a simple polygon, and checks Pick's theorem.
func checkPoints(t *testing.T, p api.Polygon, area int64) {
	inside, border := int64(0), int64(0)
	for x := -1; x <= 9; x++ {
		for y := -1; y <= 9; y++ {
			want := sideByRay(p, pt(x, y))
			if got, e := polygon.Side(p, pt(x, y)); got != want || e != api.OK {
				t.Fatalf("Side(%v, %d,%d) = %d, %d, want %d", p, x, y, got, e, want)
			}
			switch want {
			case 0:
				border++
			case 1:
				inside++
			}
		}
	}
	if 2*inside+border != max(area, -area)+2 {
		t.Fatalf("%v has %d points inside, %d on its sides and the doubled area %d", p, inside, border, area)
	}
}

func checkCanonical(t *testing.T, p api.Polygon) {
	want, e := polygon.Canonical(p)
	if area, _ := polygon.Area2(want); e != api.OK || area <= 0 || len(want) != len(p) {
		t.Fatalf("Canonical(%v) = %v, %d", p, want, e)
	}
	found := false
	for i := range p {
		turned := slices.Concat(p[i:], p[:i])
		for _, q := range []api.Polygon{turned, polygon.Reverse(turned)} {
			found = found || slices.Equal(q, want)
			if got, e := polygon.Canonical(q); !slices.Equal(got, want) || e != api.OK {
				t.Fatalf("Canonical(%v) = %v, %d, want %v", q, got, e, want)
			}
		}
	}
	for _, c := range want {
		if c.X < want[0].X || c.X == want[0].X && c.Y < want[0].Y || !found {
			t.Fatalf("Canonical(%v) = %v", p, want)
		}
	}
}

// P5.3, P5.5: the hull is convex, has corners of the list, begins with the least one, and leaves no point outside.
func TestHullsOfPoints(t *testing.T) {
	r := rand.New(rand.NewSource(2))
	for range 20000 {
		list := make([]api.Point, r.Intn(12))
		size := 2 + r.Intn(8)
		for i := range list {
			list[i] = pt(r.Intn(size)-3, r.Intn(size)-3)
		}
		old := slices.Clone(list)
		hull, e := polygon.Hull(list)
		if !slices.Equal(list, old) {
			t.Fatalf("the argument is changed: %v", list)
		}
		if onLine(list) {
			if e != api.ErrNone || len(hull) != 0 {
				t.Fatalf("Hull(%v) = %v, %d", list, hull, e)
			}
			continue
		}
		if ok, _ := polygon.Convex(hull); !ok || e != api.OK {
			t.Fatalf("Hull(%v) = %v, %d", list, hull, e)
		}
		for _, c := range hull {
			if !slices.Contains(list, c) || c.X < hull[0].X || c.X == hull[0].X && c.Y < hull[0].Y {
				t.Fatalf("Hull(%v) = %v", list, hull)
			}
		}
		for _, q := range list {
			if n, _ := polygon.Side(hull, q); n < 0 {
				t.Fatalf("Hull(%v) = %v", list, hull)
			}
		}
	}
}

func onLine(list []api.Point) bool {
	for _, a := range list {
		for _, b := range list {
			for _, c := range list {
				if polygon.Orient(a, b, c) != 0 {
					return false
				}
			}
		}
	}
	return true
}
