package arch_test

import (
	"math"
	"math/rand"
	"testing"

	"gangsaw/api"
	"gangsaw/arch"
)

// P40.1: an arch that does not begin at 0, coordinates at their limits, and a closed ring.
func TestEdges(t *testing.T) {
	list, e := arch.Of(points(10, 20, 12, 26, 16, 26, 18, 20), points(6, 20, 10, 30, 18, 30, 22, 20))
	if span, rise, f := arch.Span(list); span != 8 || rise != 6 || e != api.OK || f != api.OK {
		t.Errorf("Span = %d, %d, %d, %d", span, rise, e, f)
	}
	if _, e := arch.Of(points(-top, -top, top, -top), points(-top, top, top, top)); e != api.OK {
		t.Errorf("Of = %d", e)
	}
	// The springings of a closed ring are one point.
	ring, e := arch.Of(points(1, 0, 0, -1, -1, 0, 0, 1, 1, 0), points(3, 0, 0, -3, -3, 0, 0, 3, 3, 0))
	if ring != nil || e != api.ErrState {
		t.Errorf("Of = %v, %d", ring, e)
	}
}

type point struct{ x, y float64 }

// common is the area of the common part of two convex polygons: the first one, cut off along the edges of the second one.
func common(a, b api.Polygon) float64 {
	var part []point
	for _, c := range a {
		part = append(part, point{float64(c.X), float64(c.Y)})
	}
	for i, p := range b {
		q := b[(i+1)%len(b)]
		side := func(c point) float64 {
			return float64(q.X-p.X)*(c.y-float64(p.Y)) - float64(q.Y-p.Y)*(c.x-float64(p.X))
		}
		var left []point
		for k, c := range part {
			d := part[(k+1)%len(part)]
			s, u := side(c), side(d)
			if s >= 0 {
				left = append(left, c)
			}
			if s > 0 && u < 0 || s < 0 && u > 0 {
				f := s / (s - u)
				left = append(left, point{c.x + f*(d.x-c.x), c.y + f*(d.y-c.y)})
			}
		}
		part = left
	}
	area := 0.0
	for k, c := range part {
		d := part[(k+1)%len(part)]
		area += c.x*d.y - d.x*c.y
	}
	return area
}

// P40.1: voussoirs overlap if they have a common area; by trial of lines at random.
func TestOverlaps(t *testing.T) {
	r := rand.New(rand.NewSource(1))
	valid, overlapping := 0, 0
	for range 1500000 {
		n := 3 + r.Intn(2)
		var inner, outer api.Polygon
		angle := math.Pi * (0.8 + 0.4*r.Float64())
		turn := r.Float64() * 2.6 * math.Pi / float64(n-1)
		for range n {
			x, y := 3+4*math.Cos(angle), 3+4*math.Sin(angle)
			inner = append(inner, api.Point{X: int(x) + r.Intn(3), Y: int(y) + r.Intn(3)})
			x, y = 3+8*math.Cos(angle), 3+8*math.Sin(angle)
			outer = append(outer, api.Point{X: int(x) + r.Intn(5) - 2, Y: int(y) + r.Intn(5) - 2})
			angle -= turn
		}
		inner[n-1].Y = inner[0].Y
		// The corners go from left to right below, so the lines are those of an arch seen from its middle.
		list, e := arch.Of(inner, outer)
		if e != api.OK && e != api.ErrOverlap {
			continue
		}
		list = nil
		for i := range n - 1 {
			list = append(list, api.Polygon{inner[i], inner[i+1], outer[i+1], outer[i]})
		}
		isOverlap := false
		for i, a := range list {
			for _, b := range list[:i] {
				isOverlap = isOverlap || common(a, b) > 1e-9
			}
		}
		if isOverlap != (e == api.ErrOverlap) {
			t.Fatalf("Of(%v, %v) = %d", inner, outer, e)
		}
		if isOverlap {
			overlapping++
		} else {
			valid++
		}
	}
	if valid < 100 || overlapping < 20 {
		t.Errorf("%d arches, %d that overlap", valid, overlapping)
	}
}
