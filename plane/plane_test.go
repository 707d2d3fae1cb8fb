package plane_test

import (
	"math"
	"math/rand"
	"testing"

	"gangsaw/api"
	"gangsaw/box"
	"gangsaw/plane"
)

const (
	top  = api.MaxCoord
	maxD = 4000000000
)

func v(x, y, z int) api.Vec { return api.Vec{X: x, Y: y, Z: z} }

func bx(x, y, z, x2, y2, z2 int) api.Box { return api.Box{Min: v(x, y, z), Max: v(x2, y2, z2)} }

func half(a, b, c int, d int64) api.Half { return api.Half{A: a, B: b, C: c, D: d} }

func everything() api.Box { return bx(-top, -top, -top, top, top, top) }

// slope is x + 2 z <= 10.
func slope() api.Half { return half(1, 0, 2, 10) }

type badHalf struct {
	h api.Half
	e api.Errno
}

// badHalves are half-spaces that are not valid. Each number is wrong once.
func badHalves() []badHalf {
	list := []badHalf{
		{api.Half{}, api.ErrInvalid},
		{half(0, 0, 0, 5), api.ErrInvalid},
		{half(0, 0, 0, -maxD), api.ErrInvalid},
		{half(0, 0, 0, maxD+1), api.ErrRange},
		{half(1, 0, 0, maxD+1), api.ErrRange},
		{half(1, 0, 0, -maxD-1), api.ErrRange},
		{half(0, 1, 0, math.MaxInt64), api.ErrRange},
		{half(0, 0, 1, math.MinInt64), api.ErrRange},
	}
	for _, c := range []int{1001, -1001, math.MaxInt, math.MinInt} {
		list = append(list, badHalf{half(c, 0, 0, 0), api.ErrRange}, badHalf{half(0, c, 0, 0), api.ErrRange}, badHalf{half(0, 0, c, 0), api.ErrRange})
	}
	return list
}

type badBox struct {
	b api.Box
	e api.Errno
}

func badBoxes() []badBox {
	return []badBox{
		{api.Box{}, api.ErrInvalid},
		{bx(0, 0, 0, 5, 0, 5), api.ErrInvalid},
		{bx(9, 0, 0, 5, 5, 5), api.ErrInvalid},
		{bx(0, 0, 0, 5, 5, top+1), api.ErrRange},
		{bx(math.MinInt, 0, 0, 5, 5, 5), api.ErrRange},
	}
}

// P7.1
func TestCheck(t *testing.T) {
	for _, h := range []api.Half{slope(), half(1000, 1000, 1000, maxD), half(-1000, -1000, -1000, -maxD), half(0, 0, 1, 0), half(0, -1, 0, 0), half(1, 0, 0, 0)} {
		if e := plane.Check(h); e != api.OK {
			t.Errorf("Check(%v) = %d", h, e)
		}
	}
	for _, c := range badHalves() {
		if e := plane.Check(c.h); e != c.e {
			t.Errorf("Check(%v) = %d, want %d", c.h, e, c.e)
		}
	}
}

// P7.1
func TestValue(t *testing.T) {
	for _, c := range []struct {
		h    api.Half
		p    api.Vec
		want int64
		e    api.Errno
	}{
		{slope(), v(0, 0, 0), -10, api.OK},
		{slope(), v(4, 9, 3), 0, api.OK},
		{slope(), v(5, -7, 3), 1, api.OK},
		{half(2, -3, 5, -7), v(11, 13, 17), 75, api.OK},
		{half(1000, 1000, 1000, -maxD), v(top, top, top), 7000000000, api.OK},
		{half(1000, -1000, 1000, maxD), v(-top, top, -top), -7000000000, api.OK},
		{slope(), v(top+1, 0, 0), 0, api.ErrRange},
		{slope(), v(0, -top-1, 0), 0, api.ErrRange},
		{slope(), v(0, 0, math.MinInt), 0, api.ErrRange},
		{api.Half{}, v(top+1, 0, 0), 0, api.ErrInvalid},
	} {
		if got, e := plane.Value(c.h, c.p); got != c.want || e != c.e {
			t.Errorf("Value(%v, %v) = %d, %d, want %d, %d", c.h, c.p, got, e, c.want, c.e)
		}
	}
}

// P7.2
func TestSide(t *testing.T) {
	for _, c := range []struct {
		h               api.Half
		b               api.Box
		least, greatest int64
		side            int
	}{
		{slope(), bx(0, 0, 0, 4, 1, 3), -10, 0, plane.Inside},
		{slope(), bx(0, 0, 0, 5, 1, 3), -10, 1, plane.Across},
		{slope(), bx(10, 0, 0, 11, 1, 1), 0, 3, plane.Outside},
		{slope(), bx(9, 0, 0, 11, 1, 1), -1, 3, plane.Across},
		{half(-1, 0, -2, -10), bx(10, 0, 0, 11, 1, 1), -3, 0, plane.Inside},
		{half(-2, 3, -5, 7), bx(-1, -2, -3, 4, 5, 6), -51, 25, plane.Across},
		{half(0, 1, 0, 5), bx(0, 0, 0, 9, 5, 9), -5, 0, plane.Inside},
		{half(0, 1, 0, 5), bx(0, 5, 0, 9, 6, 9), 0, 1, plane.Outside},
		{half(0, 0, -1, 5), bx(0, 0, -5, 9, 6, 9), -14, 0, plane.Inside},
		{half(1000, -1000, 1000, maxD), everything(), -7000000000, -1000000000, plane.Inside},
		{half(1000, -1000, 1000, -maxD), everything(), 1000000000, 7000000000, plane.Outside},
	} {
		if lo, hi, e := plane.Extremes(c.h, c.b); lo != c.least || hi != c.greatest || e != api.OK {
			t.Errorf("Extremes(%v, %v) = %d, %d, %d", c.h, c.b, lo, hi, e)
		}
		if got, e := plane.Side(c.h, c.b); got != c.side || e != api.OK {
			t.Errorf("Side(%v, %v) = %d, %d, want %d", c.h, c.b, got, e, c.side)
		}
	}
}

// P7.3
func TestNormal(t *testing.T) {
	for _, c := range []struct{ h, want api.Half }{
		{half(2, 0, 4, 7), half(1, 0, 2, 3)},
		{half(2, 0, 4, -7), half(1, 0, 2, -4)},
		{half(2, 0, 4, -8), half(1, 0, 2, -4)},
		{half(1, 0, 2, 3), half(1, 0, 2, 3)},
		{half(-6, 9, -15, 10), half(-2, 3, -5, 3)},
		{half(0, 0, -1000, 1), half(0, 0, -1, 0)},
		{half(0, 0, -1000, -1), half(0, 0, -1, -1)},
		{half(0, 5, 0, 0), half(0, 1, 0, 0)},
		{half(-1000, -1000, -1000, -maxD), half(-1, -1, -1, -4000000)},
		{half(1000, 999, 0, maxD), half(1000, 999, 0, maxD)},
	} {
		if got, e := plane.Normal(c.h); got != c.want || e != api.OK {
			t.Errorf("Normal(%v) = %v, %d, want %v", c.h, got, e, c.want)
		}
	}
}

// P7.3
func TestWithin(t *testing.T) {
	for _, c := range []struct {
		a, b                api.Half
		within, back, equal bool
	}{
		{half(2, 0, 4, 7), half(1, 0, 2, 3), true, true, true},
		{half(2, 0, 4, 7), half(3, 0, 6, 11), true, true, true},
		{half(2, 0, 4, 7), half(1, 0, 2, 4), true, false, false},
		{half(2, 0, 4, 7), half(1, 0, 2, 2), false, true, false},
		{half(2, 0, 4, -7), half(1, 0, 2, -4), true, true, true},
		{half(1, 0, 0, 5), half(-1, 0, 0, 5), false, false, false},
		{half(1, 0, 0, 5), half(0, 1, 0, 5), false, false, false},
		{half(1, 0, 0, 5), half(0, 0, 1, 9), false, false, false},
		{half(1, 2, 3, 5), half(1, 2, 4, 9), false, false, false},
		{half(1000, 0, 0, -maxD), half(1, 0, 0, maxD), true, false, false},
		{half(1000, 0, 0, maxD), half(1, 0, 0, 4000000), true, true, true},
	} {
		if got, e := plane.Within(c.a, c.b); got != c.within || e != api.OK {
			t.Errorf("Within(%v, %v) = %v, %d", c.a, c.b, got, e)
		}
		if got, e := plane.Within(c.b, c.a); got != c.back || e != api.OK {
			t.Errorf("Within(%v, %v) = %v, %d", c.b, c.a, got, e)
		}
		if got, e := plane.Equal(c.a, c.b); got != c.equal || e != api.OK {
			t.Errorf("Equal(%v, %v) = %v, %d", c.a, c.b, got, e)
		}
	}
}

// P7.4
func TestHull(t *testing.T) {
	for _, c := range []struct {
		h    api.Half
		b    api.Box
		want api.Box
		e    api.Errno
	}{
		{slope(), bx(0, 0, 0, 20, 1, 20), bx(0, 0, 0, 8, 1, 4), api.OK},
		{slope(), bx(0, 0, 0, 4, 1, 3), bx(0, 0, 0, 4, 1, 3), api.OK},
		{slope(), bx(7, 0, 0, 9, 1, 9), bx(7, 0, 0, 8, 1, 1), api.OK},
		{slope(), bx(8, 0, 0, 9, 1, 9), api.Box{}, api.ErrNone},
		{slope(), bx(10, 0, 0, 11, 1, 1), api.Box{}, api.ErrNone},
		{half(-1, 0, -2, -10), bx(0, 0, 0, 7, 3, 5), bx(2, 0, 2, 7, 3, 5), api.OK},
		{half(-1, 0, -2, -10), bx(0, 0, 0, 7, 3, 4), bx(4, 0, 2, 7, 3, 4), api.OK},
		{half(-1, 0, -2, -10), bx(0, 0, 0, 4, 3, 4), api.Box{}, api.ErrNone},
		{half(0, 3, 0, 10), bx(-5, -5, -5, 5, 5, 5), bx(-5, -5, -5, 5, 3, 5), api.OK},
		{half(0, -3, 0, 10), bx(-5, -5, -5, 5, 5, 5), bx(-5, -3, -5, 5, 5, 5), api.OK},
		{half(1000, 1000, 1000, 3000), everything(), everything(), api.OK},
		{half(1000, 1000, 1000, -2999997000), everything(), bx(-top, -top, -top, 1-top, 1-top, 1-top), api.OK},
		{half(1000, 1000, 1000, -2999997001), everything(), api.Box{}, api.ErrNone},
		{half(-1000, -1000, -1000, -2999995001), everything(), bx(top-2, top-2, top-2, top, top, top), api.OK},
	} {
		if got, e := plane.Hull(c.h, c.b); got != c.want || e != c.e {
			t.Errorf("Hull(%v, %v) = %v, %d, want %v, %d", c.h, c.b, got, e, c.want, c.e)
		}
	}
}

// P7.4
func TestDepth(t *testing.T) {
	b := bx(0, 0, 0, 4, 1, 3)
	for _, c := range []struct {
		h               api.Half
		b               api.Box
		direction, most int
		want            int
		e               api.Errno
	}{
		{slope(), b, api.PlusX, 9, 0, api.OK},
		{slope(), b, api.MinusX, 9, 9, api.OK},
		{slope(), b, api.PlusY, 9, 9, api.OK},
		{slope(), b, api.MinusY, 9, 9, api.OK},
		{slope(), b, api.PlusZ, 9, 0, api.OK},
		{slope(), b, api.MinusZ, top, top, api.OK},
		{half(1, 0, 2, 19), b, api.PlusX, 99, 9, api.OK},
		{half(1, 0, 2, 19), b, api.PlusX, 9, 9, api.OK},
		{half(1, 0, 2, 19), b, api.PlusX, 8, 8, api.OK},
		{half(1, 0, 2, 19), b, api.PlusX, 0, 0, api.OK},
		{half(1, 0, 2, 19), b, api.PlusZ, 99, 4, api.OK},
		{half(0, 3, 0, 10), b, api.PlusY, 99, 2, api.OK},
		{half(-1, -3, -2, 11), b, api.MinusX, 99, 11, api.OK},
		{half(-1, -3, -2, 11), b, api.MinusY, 99, 3, api.OK},
		{half(-1, -3, -2, 11), b, api.MinusZ, 99, 5, api.OK},
		{half(-1, -3, -2, 11), b, api.PlusX, 99, 99, api.OK},
		{half(1, 0, 0, top), bx(0, 0, 0, top, 1, 1), api.PlusX, top, 0, api.OK},
		{half(1, 0, 0, maxD), bx(top-1, 0, 0, top, 1, 1), api.PlusX, top, top, api.OK},
		{half(1, 0, 2, 9), b, api.PlusX, 9, 0, api.ErrState},
		{half(1, 0, 2, 9), b, api.MinusX, 9, 0, api.ErrState},
		{slope(), bx(10, 0, 0, 11, 1, 1), api.MinusX, 9, 0, api.ErrState},
		{slope(), b, -1, 9, 0, api.ErrRange},
		{slope(), b, 6, 9, 0, api.ErrRange},
		{slope(), b, math.MinInt, 9, 0, api.ErrRange},
		{slope(), b, math.MaxInt, 9, 0, api.ErrRange},
		{slope(), b, 0, -1, 0, api.ErrRange},
		{slope(), b, 0, top + 1, 0, api.ErrRange},
		{slope(), b, 0, math.MaxInt, 0, api.ErrRange},
		{half(1, 0, 2, 9), b, 6, 9, 0, api.ErrRange},
		{half(1, 0, 2, 9), b, 0, -1, 0, api.ErrRange},
	} {
		if got, e := plane.Depth(c.h, c.b, c.direction, c.most); got != c.want || e != c.e {
			t.Errorf("Depth(%v, %v, %d, %d) = %d, %d, want %d, %d", c.h, c.b, c.direction, c.most, got, e, c.want, c.e)
		}
	}
}

// P1: the half-space is checked before the box, and both before what else is wrong.
func TestRefusals(t *testing.T) {
	good := bx(0, 0, 0, 1, 1, 1)
	for _, c := range badHalves() {
		checkRefusal(t, c.h, good, c.e)
		for _, d := range badBoxes() {
			checkRefusal(t, c.h, d.b, c.e)
			checkRefusal(t, slope(), d.b, d.e)
		}
		if n, e := plane.Value(c.h, v(0, top+1, 0)); n != 0 || e != c.e {
			t.Errorf("Value(%v) = %d, %d", c.h, n, e)
		}
		if h, e := plane.Normal(c.h); h != (api.Half{}) || e != c.e {
			t.Errorf("Normal(%v) = %v, %d", c.h, h, e)
		}
		checkRefusalOfHalves(t, c.h, slope(), c.e)
		checkRefusalOfHalves(t, slope(), c.h, c.e)
		for _, d := range badHalves() {
			checkRefusalOfHalves(t, c.h, d.h, c.e)
		}
	}
}

func checkRefusal(t *testing.T, h api.Half, b api.Box, want api.Errno) {
	if lo, hi, e := plane.Extremes(h, b); lo != 0 || hi != 0 || e != want {
		t.Errorf("Extremes(%v, %v) = %d, %d, %d, want %d", h, b, lo, hi, e, want)
	}
	if n, e := plane.Side(h, b); n != 0 || e != want {
		t.Errorf("Side(%v, %v) = %d, %d, want %d", h, b, n, e, want)
	}
	if c, e := plane.Hull(h, b); c != (api.Box{}) || e != want {
		t.Errorf("Hull(%v, %v) = %v, %d, want %d", h, b, c, e, want)
	}
	for _, direction := range []int{api.PlusX, 6} {
		if n, e := plane.Depth(h, b, direction, 5); n != 0 || e != want {
			t.Errorf("Depth(%v, %v, %d) = %d, %d, want %d", h, b, direction, n, e, want)
		}
	}
}

func checkRefusalOfHalves(t *testing.T, a, b api.Half, want api.Errno) {
	if ok, e := plane.Equal(a, b); ok || e != want {
		t.Errorf("Equal(%v, %v) = %v, %d, want %d", a, b, ok, e, want)
	}
	if ok, e := plane.Within(a, b); ok || e != want {
		t.Errorf("Within(%v, %v) = %v, %d, want %d", a, b, ok, e, want)
	}
}

func someHalf(r *rand.Rand, factor, d int) api.Half {
	one := func(n int) int { return r.Intn(2*n+1) - n }
	for {
		h := half(one(factor), one(factor), one(factor), int64(one(d)))
		if plane.Check(h) == api.OK {
			return h
		}
	}
}

func someBox(r *rand.Rand, size int) api.Box {
	lo := v(r.Intn(9)-4, r.Intn(9)-4, r.Intn(9)-4)
	return api.Box{Min: lo, Max: v(lo.X+1+r.Intn(size), lo.Y+1+r.Intn(size), lo.Z+1+r.Intn(size))}
}

// value is A x + B y + C z - D.
func value(h api.Half, p api.Vec) int64 { return int64(h.A*p.X+h.B*p.Y+h.C*p.Z) - h.D }

// cornersOf are the eight corners of a box.
func cornersOf(b api.Box) []api.Vec {
	var l []api.Vec
	for _, x := range []int{b.Min.X, b.Max.X} {
		for _, y := range []int{b.Min.Y, b.Max.Y} {
			for _, z := range []int{b.Min.Z, b.Max.Z} {
				l = append(l, v(x, y, z))
			}
		}
	}
	return l
}

// P7.1, P7.2, P7.4, P7.5: small boxes, compared corner by corner and cell by cell.
func TestBoxesAgainstCorners(t *testing.T) {
	r := rand.New(rand.NewSource(1))
	seen := map[int]int{}
	for range 5000 {
		h, b := someHalf(r, 4, 25), someBox(r, 6)
		least, greatest := int64(math.MaxInt64), int64(math.MinInt64)
		for _, p := range cornersOf(b) {
			n, e := plane.Value(h, p)
			if n != value(h, p) || e != api.OK {
				t.Fatalf("Value(%v, %v) = %d, %d", h, p, n, e)
			}
			least, greatest = min(least, n), max(greatest, n)
		}
		if lo, hi, e := plane.Extremes(h, b); lo != least || hi != greatest || e != api.OK {
			t.Fatalf("Extremes(%v, %v) = %d, %d, %d, want %d, %d", h, b, lo, hi, e, least, greatest)
		}
		want := plane.Across
		if greatest <= 0 {
			want = plane.Inside
		} else if least >= 0 {
			want = plane.Outside
		}
		seen[want]++
		if got, e := plane.Side(h, b); got != want || e != api.OK {
			t.Fatalf("Side(%v, %v) = %d, %d, want %d", h, b, got, e, want)
		}
		checkHull(t, h, b, want)
		checkDepth(t, h, b, want == plane.Inside)
	}
	for side := plane.Inside; side <= plane.Across; side++ {
		if seen[side] < 500 {
			t.Errorf("position %d: %d times", side, seen[side])
		}
	}
}

// checkHull compares the hull of the cells, and checks that smaller boxes have the position of a box that is not Across.
func checkHull(t *testing.T, h api.Half, b api.Box, side int) {
	var want api.Box
	wantE := api.ErrNone
	for x := b.Min.X; x < b.Max.X; x++ {
		for y := b.Min.Y; y < b.Max.Y; y++ {
			for z := b.Min.Z; z < b.Max.Z; z++ {
				cell := bx(x, y, z, x+1, y+1, z+1)
				position, _ := plane.Side(h, cell)
				if side != plane.Across && position != side {
					t.Fatalf("Side(%v, %v) = %d, but %d of %v", h, cell, position, side, b)
				}
				if position == plane.Inside && wantE == api.OK {
					want, _ = box.Hull(want, cell)
				} else if position == plane.Inside {
					want, wantE = cell, api.OK
				}
			}
		}
	}
	if got, e := plane.Hull(h, b); got != want || e != wantE {
		t.Fatalf("Hull(%v, %v) = %v, %d, want %v, %d", h, b, got, e, want, wantE)
	}
}

func checkDepth(t *testing.T, h api.Half, b api.Box, inside bool) {
	const most = 7
	for direction, by := range []api.Vec{v(1, 0, 0), v(-1, 0, 0), v(0, 1, 0), v(0, -1, 0), v(0, 0, 1), v(0, 0, -1)} {
		got, e := plane.Depth(h, b, direction, most)
		if !inside {
			if got != 0 || e != api.ErrState {
				t.Fatalf("Depth(%v, %v, %d) = %d, %d", h, b, direction, got, e)
			}
			continue
		}
		want := 0
		for moved := b; want < most; want++ {
			moved, _ = box.Move(moved, by)
			if side, _ := plane.Side(h, moved); side != plane.Inside {
				break
			}
		}
		if got != want || e != api.OK {
			t.Fatalf("Depth(%v, %v, %d) = %d, %d, want %d", h, b, direction, got, e, want)
		}
	}
}

// P7.3, P7.5: half-spaces, compared point by point.
func TestHalvesAgainstPoints(t *testing.T) {
	r := rand.New(rand.NewSource(2))
	seen := map[[2]bool]int{}
	for i := range 2000 {
		a, b := someHalf(r, 2, 5), someHalf(r, 2, 5)
		if i%2 == 0 {
			k := 1 + r.Intn(3)
			b = half(k*a.A, k*a.B, k*a.C, int64(k)*a.D+int64(r.Intn(7)-3))
		}
		within, back := pointsWithin(a, b), pointsWithin(b, a)
		seen[[2]bool{within, back}]++
		if got, e := plane.Within(a, b); got != within || e != api.OK {
			t.Fatalf("Within(%v, %v) = %v, %d", a, b, got, e)
		}
		if got, e := plane.Equal(a, b); got != (within && back) || e != api.OK {
			t.Fatalf("Equal(%v, %v) = %v, %d", a, b, got, e)
		}
		n, e := plane.Normal(b)
		if !pointsWithin(n, b) || !pointsWithin(b, n) || e != api.OK {
			t.Fatalf("Normal(%v) = %v, %d", b, n, e)
		}
		if again, _ := plane.Normal(n); again != n {
			t.Fatalf("Normal(%v) = %v", n, again)
		}
		for d := 2; d <= 6; d++ {
			if n.A%d == 0 && n.B%d == 0 && n.C%d == 0 {
				t.Fatalf("Normal(%v) = %v", b, n)
			}
		}
	}
	if len(seen) != 4 {
		t.Errorf("seen: %v", seen)
	}
}

// pointsWithin reports whether no point near 0 lies in a and not in b.
func pointsWithin(a, b api.Half) bool {
	const far = 16
	for x := -far; x <= far; x++ {
		for y := -far; y <= far; y++ {
			for z := -far; z <= far; z++ {
				if p := v(x, y, z); value(a, p) <= 0 && value(b, p) > 0 {
					return false
				}
			}
		}
	}
	return true
}
