package prism_test

import (
	"math"
	"math/big"
	"math/rand"
	"testing"

	"gangsaw/api"
	"gangsaw/box"
	"gangsaw/polygon"
	"gangsaw/prism"
)

// place is a point with exact fractions as coordinates.
type place struct {
	x, y *big.Rat
}

// height is positive for a point to the left of the line from a to b, in proportion to its distance.
func height(a, b api.Point, p place) *big.Rat {
	dx, dy := big.NewRat(int64(b.X-a.X), 1), big.NewRat(int64(b.Y-a.Y), 1)
	x := new(big.Rat).Sub(p.x, big.NewRat(int64(a.X), 1))
	y := new(big.Rat).Sub(p.y, big.NewRat(int64(a.Y), 1))
	return new(big.Rat).Sub(y.Mul(y, dx), x.Mul(x, dy))
}

// clipped is the part of a convex figure to the left of the line from a to b.
func clipped(list []place, a, b api.Point) []place {
	var left []place
	for i, p := range list {
		q := list[(i+1)%len(list)]
		hp, hq := height(a, b, p), height(a, b, q)
		if hp.Sign() >= 0 {
			left = append(left, p)
		}
		if hp.Sign()*hq.Sign() < 0 {
			share := new(big.Rat).Quo(hp, new(big.Rat).Sub(hp, hq))
			between := func(s, t *big.Rat) *big.Rat {
				d := new(big.Rat).Sub(t, s)
				return d.Add(s, d.Mul(d, share))
			}
			left = append(left, place{between(p.x, q.x), between(p.y, q.y)})
		}
	}
	return left
}

// commonArea reports whether two convex bases have a common part of positive area.
func commonArea(p, q api.Polygon) bool {
	var list []place
	for _, c := range p {
		list = append(list, place{big.NewRat(int64(c.X), 1), big.NewRat(int64(c.Y), 1)})
	}
	for i, a := range q {
		if list = clipped(list, a, q[(i+1)%len(q)]); len(list) == 0 {
			return false
		}
	}
	area := new(big.Rat)
	for i, a := range list {
		b := list[(i+1)%len(list)]
		area.Add(area, new(big.Rat).Mul(a.x, b.y))
		area.Sub(area, new(big.Rat).Mul(b.x, a.y))
	}
	return area.Sign() > 0
}

// somePrism has the hull of a few points as its base, which begins at any corner.
func somePrism(r *rand.Rand) api.Prism {
	for {
		points := make([]api.Point, 3+r.Intn(5))
		for i := range points {
			points[i] = api.Point{X: r.Intn(9), Y: r.Intn(9)}
		}
		if base, e := polygon.Hull(points); e == api.OK {
			k := r.Intn(len(base))
			lo := r.Intn(4)
			return api.Prism{Base: append(base[k:len(base):len(base)], base[:k]...), Lo: lo, Hi: lo + 1 + r.Intn(3)}
		}
	}
}

func someBox(r *rand.Rand) api.Box {
	x, y, z := r.Intn(9)-1, r.Intn(9)-1, r.Intn(5)
	return bx(x, y, z, x+1+r.Intn(4), y+1+r.Intn(4), z+1+r.Intn(3))
}

func rectangle(b api.Box) api.Polygon {
	return poly(b.Min.X, b.Min.Y, b.Max.X, b.Min.Y, b.Max.X, b.Max.Y, b.Min.X, b.Max.Y)
}

// P8.2, P8.3, P8.5: small prisms and boxes, compared with the exact common part of their bases.
func TestBoxesAgainstClipping(t *testing.T) {
	r := rand.New(rand.NewSource(1))
	seen := map[int]int{}
	for range 6000 {
		p, b := somePrism(r), someBox(r)
		area := commonArea(p.Base, rectangle(b))
		separator := separatorByDefinition(p.Base, b)
		if got, e := prism.Separator(p, b); got != separator || (got == -1) != area || e != api.OK {
			t.Fatalf("Separator(%v, %v) = %d, %d, want %d", p, b, got, e, separator)
		}
		seen[separator]++
		want := area && max(p.Lo, b.Min.Z) < min(p.Hi, b.Max.Z)
		if got, e := prism.Overlaps(p, b); got != want || e != api.OK {
			t.Fatalf("Overlaps(%v, %v) = %v, %d", p, b, got, e)
		}
		covers := p.Lo <= b.Min.Z && b.Max.Z <= p.Hi
		for _, c := range rectangle(b) {
			side, _ := polygon.Side(p.Base, c)
			covers = covers && side >= 0
		}
		if got, e := prism.Covers(p, b); got != covers || got && !want || e != api.OK {
			t.Fatalf("Covers(%v, %v) = %v, %d", p, b, got, e)
		}
		if covers {
			seen[-2]++
		}
		checkHull(t, p, b, want)
	}
	for _, n := range []int{-2, -1, 0, 1, 2, 1000, 1001, 1002, 1003} {
		if seen[n] < 10 {
			t.Errorf("the result %d occurs %d times", n, seen[n])
		}
	}
}

func separatorByDefinition(base api.Polygon, b api.Box) int {
	for i, a := range base {
		c := base[(i+1)%len(base)]
		left := false
		for _, q := range rectangle(b) {
			left = left || (c.X-a.X)*(q.Y-a.Y)-(c.Y-a.Y)*(q.X-a.X) > 0
		}
		if !left {
			return i
		}
	}
	beyond := [4]bool{true, true, true, true}
	for _, a := range base {
		for i, ok := range [4]bool{a.X <= b.Min.X, a.X >= b.Max.X, a.Y <= b.Min.Y, a.Y >= b.Max.Y} {
			beyond[i] = beyond[i] && ok
		}
	}
	for i, ok := range beyond {
		if ok {
			return 1000 + i
		}
	}
	return -1
}

func checkHull(t *testing.T, p api.Prism, b api.Box, overlaps bool) {
	hull, e := prism.Hull(p)
	if e != api.OK || overlaps && !box.Overlap(hull, b) {
		t.Fatalf("Hull(%v) = %v, %d", p, hull, e)
	}
	of, _ := prism.Of(b)
	if same, _ := prism.Hull(of); same != b {
		t.Fatalf("Hull(%v) = %v", of, same)
	}
	if got, _ := prism.Overlaps(of, hull); got != box.Overlap(b, hull) {
		t.Fatalf("Overlaps(%v, %v) = %v", of, hull, got)
	}
	if got, _ := prism.Covers(of, hull); got != box.Inside(hull, b) {
		t.Fatalf("Covers(%v, %v) = %v", of, hull, got)
	}
	if got, _ := prism.Meets(p, of); got != overlaps {
		t.Fatalf("Meets(%v, %v) = %v", p, of, got)
	}
}

// P8.2, P8.4, P8.5: two prisms, compared with the exact common part of their bases, as they lie and moved.
func TestPrismsAgainstClipping(t *testing.T) {
	r := rand.New(rand.NewSource(2))
	seen := map[bool]int{}
	for range 6000 {
		p, q := somePrism(r), somePrism(r)
		want := commonArea(p.Base, q.Base) && max(p.Lo, q.Lo) < min(p.Hi, q.Hi)
		seen[want]++
		by := api.Vec{X: r.Intn(2*top-20) - top + 10, Y: r.Intn(2*top-20) - top + 10, Z: r.Intn(2*top-20) - top + 10}
		movedP, e := prism.Move(p, by)
		movedQ, f := prism.Move(q, by)
		if e != api.OK || f != api.OK {
			t.Fatalf("Move of %v and %v by %v: %d, %d", p, q, by, e, f)
		}
		for _, pair := range [][2]api.Prism{{p, q}, {q, p}, {movedP, movedQ}} {
			if got, e := prism.Meets(pair[0], pair[1]); got != want || e != api.OK {
				t.Fatalf("Meets(%v, %v) = %v, %d", pair[0], pair[1], got, e)
			}
		}
		area, _ := prism.Area2(p)
		if moved, _ := prism.Area2(movedP); area <= 0 || moved != area {
			t.Fatalf("Area2 of %v: %d, moved %d", p, area, moved)
		}
	}
	if seen[true] < 1000 || seen[false] < 1000 {
		t.Errorf("seen: %v", seen)
	}
}

// checkedByAngles reports whether a base turns to the left at every corner, and once around in all.
func checkedByAngles(base api.Polygon) bool {
	sum := 0.0
	for i, a := range base {
		b, c := base[(i+1)%len(base)], base[(i+2)%len(base)]
		x, y, u, w := b.X-a.X, b.Y-a.Y, c.X-b.X, c.Y-b.Y
		if x*w-y*u <= 0 {
			return false
		}
		sum += math.Atan2(float64(x*w-y*u), float64(x*u+y*w))
	}
	return math.Abs(sum-2*math.Pi) < 0.001
}

// P8.1: small bases, compared with the sum of their angles.
func TestBasesAgainstAngles(t *testing.T) {
	r := rand.New(rand.NewSource(3))
	seen := map[api.Errno]int{}
	for i := range 60000 {
		base := make(api.Polygon, 3+r.Intn(4))
		for k := range base {
			base[k] = api.Point{X: r.Intn(3 + i%6), Y: r.Intn(3 + i%6)}
		}
		want := api.ErrInvalid
		if checkedByAngles(base) {
			want = api.OK
		}
		seen[want]++
		if e := prism.Check(api.Prism{Base: base, Lo: 0, Hi: 1}); e != want {
			t.Fatalf("Check(%v) = %d, want %d", base, e, want)
		}
	}
	if seen[api.OK] < 1000 {
		t.Errorf("seen: %v", seen)
	}
}
