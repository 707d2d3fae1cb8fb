package box_test

import (
	"math"
	"math/rand"
	"slices"
	"testing"

	"gangsaw/api"
	"gangsaw/box"
)

const top = api.MaxCoord

func v(x, y, z int) api.Vec { return api.Vec{X: x, Y: y, Z: z} }

func bx(x, y, z, x2, y2, z2 int) api.Box { return api.Box{Min: v(x, y, z), Max: v(x2, y2, z2)} }

func cube(lo, hi int) api.Box { return bx(lo, lo, lo, hi, hi, hi) }

func everything() api.Box { return cube(-top, top) }

type refusal struct {
	b api.Box
	e api.Errno
}

// refusals are boxes that are not valid. Each coordinate is wrong once.
func refusals() []refusal {
	list := []refusal{
		{api.Box{}, api.ErrInvalid},
		{cube(3, 3), api.ErrInvalid},
		{cube(5, 2), api.ErrInvalid},
		{bx(5, 0, 0, 5, 9, 9), api.ErrInvalid},
		{bx(0, 5, 0, 9, 5, 9), api.ErrInvalid},
		{bx(0, 0, 5, 9, 9, 5), api.ErrInvalid},
		{bx(6, 0, 0, 5, 9, 9), api.ErrInvalid},
		{bx(0, 6, 0, 9, 5, 9), api.ErrInvalid},
		{bx(0, 0, 6, 9, 9, 5), api.ErrInvalid},
		{cube(math.MinInt, math.MaxInt), api.ErrRange},
		{cube(math.MaxInt, math.MinInt), api.ErrRange},
		{bx(5, 0, 0, 5, 9, top+1), api.ErrRange},
	}
	for _, c := range []int{top + 1, -top - 1, math.MaxInt, math.MinInt} {
		list = append(list,
			refusal{bx(c, 0, 0, 9, 9, 9), api.ErrRange}, refusal{bx(0, c, 0, 9, 9, 9), api.ErrRange}, refusal{bx(0, 0, c, 9, 9, 9), api.ErrRange},
			refusal{bx(0, 0, 0, c, 9, 9), api.ErrRange}, refusal{bx(0, 0, 0, 9, c, 9), api.ErrRange}, refusal{bx(0, 0, 0, 9, 9, c), api.ErrRange})
	}
	return list
}

// P6.1
func TestCheck(t *testing.T) {
	for _, b := range []api.Box{cube(0, 1), everything(), bx(-top, 5, top-1, 1-top, 6, top), bx(-3, -2, -1, 4, 5, 6)} {
		if e := box.Check(b); e != api.OK {
			t.Errorf("Check(%v) = %d", b, e)
		}
	}
	for _, c := range refusals() {
		if e := box.Check(c.b); e != c.e {
			t.Errorf("Check(%v) = %d, want %d", c.b, e, c.e)
		}
	}
}

// P6.1
func TestSizeAndVolume(t *testing.T) {
	for _, c := range []struct {
		b      api.Box
		size   api.Vec
		volume int64
	}{
		{cube(0, 4), v(4, 4, 4), 64},
		{bx(-3, -2, -1, 4, 6, 8), v(7, 8, 9), 504},
		{bx(0, 0, 0, 1, 2, 3), v(1, 2, 3), 6},
		{everything(), v(2*top, 2*top, 2*top), 8 * top * top * top},
	} {
		if got := box.Size(c.b); got != c.size {
			t.Errorf("Size(%v) = %v", c.b, got)
		}
		if got, e := box.Volume(c.b); got != c.volume || e != api.OK {
			t.Errorf("Volume(%v) = %d, %d", c.b, got, e)
		}
	}
	for _, c := range []struct {
		b    api.Box
		size api.Vec
	}{
		{bx(5, 5, 5, 5, 3, 9), v(0, -2, 4)},
		{bx(0, 0, 0, math.MaxInt, math.MinInt, top+1), v(math.MaxInt, math.MinInt, top+1)},
	} {
		if got := box.Size(c.b); got != c.size {
			t.Errorf("Size(%v) = %v", c.b, got)
		}
	}
}

// P6.2
func TestHas(t *testing.T) {
	b := bx(1, 2, 3, 4, 6, 8)
	for _, c := range []struct {
		p    api.Vec
		want bool
	}{
		{v(1, 2, 3), true}, {v(3, 5, 7), true}, {v(2, 4, 5), true},
		{v(0, 2, 3), false}, {v(1, 1, 3), false}, {v(1, 2, 2), false},
		{v(4, 5, 7), false}, {v(3, 6, 7), false}, {v(3, 5, 8), false},
		{v(math.MinInt, 4, 4), false}, {v(2, math.MaxInt, 4), false},
	} {
		if got := box.Has(b, c.p); got != c.want {
			t.Errorf("Has(%v) = %v", c.p, got)
		}
	}
	if !box.Has(cube(math.MinInt, math.MaxInt), v(math.MinInt, 0, math.MaxInt-1)) || box.Has(cube(math.MinInt, math.MaxInt), v(0, 0, math.MaxInt)) || box.Has(cube(5, 5), v(5, 5, 5)) || box.Has(cube(5, 3), v(4, 4, 4)) {
		t.Errorf("Has of boxes that are not valid")
	}
}

// P6.2, P6.3
func TestPairs(t *testing.T) {
	a := cube(0, 4)
	for _, c := range []struct {
		b       api.Box
		inside  bool
		overlap bool
		touch   int // -1 if they do not touch
	}{
		{a, true, true, -1},
		{cube(2, 6), false, true, -1},
		{cube(1, 3), true, true, -1},
		{cube(-1, 5), false, true, -1},
		{bx(3, 3, 3, 9, 9, 9), false, true, -1},
		{bx(4, 1, 1, 5, 2, 2), false, false, api.PlusX},
		{bx(-3, 1, 1, 0, 2, 2), false, false, api.MinusX},
		{bx(1, 4, 1, 2, 5, 2), false, false, api.PlusY},
		{bx(1, -3, 1, 2, 0, 2), false, false, api.MinusY},
		{bx(1, 1, 4, 2, 2, 5), false, false, api.PlusZ},
		{bx(1, 1, -3, 2, 2, 0), false, false, api.MinusZ},
		{bx(4, 3, 3, 5, 9, 9), false, false, api.PlusX},
		{bx(4, -9, -9, 5, 1, 1), false, false, api.PlusX},
		{bx(5, 1, 1, 6, 2, 2), false, false, -1},
		{bx(-3, 1, 1, -1, 2, 2), false, false, -1},
		{bx(4, 4, 0, 5, 5, 1), false, false, -1},
		{bx(4, 0, 4, 5, 1, 5), false, false, -1},
		{bx(0, 4, 4, 1, 5, 5), false, false, -1},
		{bx(-1, -1, 0, 0, 0, 1), false, false, -1},
		{cube(4, 5), false, false, -1},
		{cube(-1, 0), false, false, -1},
		{bx(4, 5, 1, 5, 6, 2), false, false, -1},
		{bx(0, 0, 0, 4, 4, 5), false, true, -1},
		{bx(-1, 0, 0, 4, 4, 4), false, true, -1},
		{bx(0, 0, 1, 4, 3, 4), true, true, -1},
	} {
		if got := box.Inside(c.b, a); got != c.inside {
			t.Errorf("Inside(%v, a) = %v", c.b, got)
		}
		if box.Overlap(a, c.b) != c.overlap || box.Overlap(c.b, a) != c.overlap {
			t.Errorf("Overlap of a and %v is not %v", c.b, c.overlap)
		}
		checkTouch(t, a, c.b, c.touch)
	}
}

// checkTouch checks the directions in which two boxes touch each other: they are opposite.
func checkTouch(t *testing.T, a, b api.Box, want int) {
	ab, e := box.Touch(a, b)
	ba, f := box.Touch(b, a)
	if want < 0 {
		if ab != 0 || ba != 0 || e != api.ErrNone || f != api.ErrNone {
			t.Fatalf("Touch of %v and %v: %d, %d, %d, %d", a, b, ab, e, ba, f)
		}
		return
	}
	if ab != want || ba != want^1 || e != api.OK || f != api.OK {
		t.Fatalf("Touch of %v and %v: %d, %d, %d, %d, want %d", a, b, ab, e, ba, f, want)
	}
}

// P6.2: boxes that are not valid have comparisons, too; those without points overlap nothing.
func TestPairsOfAnyBoxes(t *testing.T) {
	all := cube(math.MinInt, math.MaxInt)
	for _, c := range []struct {
		a, b            api.Box
		inside, overlap bool
	}{
		{cube(3, 3), cube(0, 9), true, false},
		{cube(5, 2), cube(0, 9), true, false},
		{cube(0, 9), cube(5, 2), false, false},
		{cube(5, 2), cube(5, 2), true, false},
		{cube(6, 1), cube(5, 2), true, false},
		{cube(3, 3), cube(3, 3), true, false},
		{bx(0, 0, 0, 9, 9, 0), cube(-1, 10), true, false},
		{all, all, true, true},
		{all, cube(0, 1), false, true},
		{cube(0, 1), all, true, true},
		{cube(math.MaxInt, math.MinInt), all, true, false},
		{cube(top+5, top+9), cube(top+7, top+8), false, true},
	} {
		if got := box.Inside(c.a, c.b); got != c.inside {
			t.Errorf("Inside(%v, %v) = %v", c.a, c.b, got)
		}
		if box.Overlap(c.a, c.b) != c.overlap || box.Overlap(c.b, c.a) != c.overlap {
			t.Errorf("Overlap of %v and %v is not %v", c.a, c.b, c.overlap)
		}
	}
}

// P6.3
func TestIntersectAndHull(t *testing.T) {
	a := cube(0, 4)
	for _, c := range []struct {
		b, common, hull api.Box
		e               api.Errno
	}{
		{cube(2, 6), cube(2, 4), cube(0, 6), api.OK},
		{cube(1, 3), cube(1, 3), a, api.OK},
		{bx(-1, 1, 2, 9, 3, 7), bx(0, 1, 2, 4, 3, 4), bx(-1, 0, 0, 9, 4, 7), api.OK},
		{bx(4, 0, 0, 5, 4, 4), api.Box{}, bx(0, 0, 0, 5, 4, 4), api.ErrNone},
		{bx(0, -5, 0, 4, 0, 4), api.Box{}, bx(0, -5, 0, 4, 4, 4), api.ErrNone},
		{bx(0, 0, 7, 4, 4, 8), api.Box{}, bx(0, 0, 0, 4, 4, 8), api.ErrNone},
		{everything(), a, everything(), api.OK},
	} {
		for _, p := range [][2]api.Box{{a, c.b}, {c.b, a}} {
			if got, e := box.Intersect(p[0], p[1]); got != c.common || e != c.e {
				t.Errorf("Intersect(%v) = %v, %d", p, got, e)
			}
			if got, e := box.Hull(p[0], p[1]); got != c.hull || e != api.OK {
				t.Errorf("Hull(%v) = %v, %d", p, got, e)
			}
		}
	}
}

// P6.3
func TestMove(t *testing.T) {
	for _, c := range []struct {
		b    api.Box
		by   api.Vec
		want api.Box
		e    api.Errno
	}{
		{bx(0, 1, 2, 3, 4, 5), v(10, -20, 30), bx(10, -19, 32, 13, -16, 35), api.OK},
		{cube(0, 4), v(0, 0, 0), cube(0, 4), api.OK},
		{cube(0, 4), v(top-4, 0, -top), bx(top-4, 0, -top, top, 4, 4-top), api.OK},
		{cube(-top, 1-top), v(2*top-1, 2*top-1, 2*top-1), cube(top-1, top), api.OK},
		{cube(0, 4), v(top-3, 0, 0), api.Box{}, api.ErrRange},
		{cube(0, 4), v(0, -top-1, 0), api.Box{}, api.ErrRange},
		{cube(0, 4), v(0, 0, top-3), api.Box{}, api.ErrRange},
		{cube(0, 4), v(math.MaxInt, 0, 0), api.Box{}, api.ErrRange},
		{cube(0, 4), v(0, math.MinInt, 0), api.Box{}, api.ErrRange},
		{cube(-4, 4), v(0, 0, math.MinInt), api.Box{}, api.ErrRange},
		{everything(), v(0, 0, 1), api.Box{}, api.ErrRange},
		{cube(4, 0), v(math.MaxInt, 0, 0), api.Box{}, api.ErrInvalid},
	} {
		if got, e := box.Move(c.b, c.by); got != c.want || e != c.e {
			t.Errorf("Move(%v, %v) = %v, %d, want %v, %d", c.b, c.by, got, e, c.want, c.e)
		}
	}
}

// P1: functions of one or two boxes return the error of the first box that has one.
func TestRefusals(t *testing.T) {
	good := cube(0, 9)
	for _, c := range refusals() {
		if n, e := box.Volume(c.b); n != 0 || e != c.e {
			t.Errorf("Volume(%v) = %d, %d", c.b, n, e)
		}
		if b, e := box.Move(c.b, v(0, 0, 0)); b != (api.Box{}) || e != c.e {
			t.Errorf("Move(%v) = %v, %d", c.b, b, e)
		}
		checkRefusal(t, c.b, good, c.e)
		checkRefusal(t, good, c.b, c.e)
		for _, d := range refusals() {
			checkRefusal(t, c.b, d.b, c.e)
		}
	}
}

func checkRefusal(t *testing.T, a, b api.Box, want api.Errno) {
	if n, e := box.Touch(a, b); n != 0 || e != want {
		t.Errorf("Touch(%v, %v) = %d, %d, want %d", a, b, n, e, want)
	}
	if c, e := box.Intersect(a, b); c != (api.Box{}) || e != want {
		t.Errorf("Intersect(%v, %v) = %v, %d, want %d", a, b, c, e, want)
	}
	if c, e := box.Hull(a, b); c != (api.Box{}) || e != want {
		t.Errorf("Hull(%v, %v) = %v, %d, want %d", a, b, c, e, want)
	}
	if l, e := box.Subtract(a, b); len(l) != 0 || e != want {
		t.Errorf("Subtract(%v, %v) = %v, %d, want %d", a, b, l, e, want)
	}
}

// P6.4
func TestSubtract(t *testing.T) {
	a := cube(0, 4)
	for _, c := range []struct {
		b    api.Box
		want []api.Box
	}{
		{cube(2, 6), []api.Box{bx(0, 0, 0, 4, 4, 2), bx(0, 0, 2, 4, 2, 4), bx(0, 2, 2, 2, 4, 4)}},
		{cube(-2, 2), []api.Box{bx(0, 0, 2, 4, 4, 4), bx(0, 2, 0, 4, 4, 2), bx(2, 0, 0, 4, 2, 2)}},
		{cube(1, 3), []api.Box{
			bx(0, 0, 0, 4, 4, 1), bx(0, 0, 3, 4, 4, 4), bx(0, 0, 1, 4, 1, 3), bx(0, 3, 1, 4, 4, 3), bx(0, 1, 1, 1, 3, 3), bx(3, 1, 1, 4, 3, 3),
		}},
		{bx(1, -1, -1, 2, 9, 9), []api.Box{bx(0, 0, 0, 1, 4, 4), bx(2, 0, 0, 4, 4, 4)}},
		{bx(-1, 1, -1, 9, 2, 9), []api.Box{bx(0, 0, 0, 4, 1, 4), bx(0, 2, 0, 4, 4, 4)}},
		{bx(-1, -1, 1, 9, 9, 2), []api.Box{bx(0, 0, 0, 4, 4, 1), bx(0, 0, 2, 4, 4, 4)}},
		{a, nil},
		{cube(-1, 5), nil},
		{bx(4, 0, 0, 5, 4, 4), []api.Box{a}},
		{cube(7, 9), []api.Box{a}},
	} {
		if got, e := box.Subtract(a, c.b); !slices.Equal(got, c.want) || e != api.OK {
			t.Errorf("Subtract(a, %v) = %v, %d, want %v", c.b, got, e, c.want)
		}
	}
}

// someBox is a small box with coordinates from 0 to 6.
func someBox(r *rand.Rand) api.Box {
	side := func() (int, int) {
		lo := r.Intn(6)
		return lo, lo + 1 + r.Intn(6-lo)
	}
	var b api.Box
	b.Min.X, b.Max.X = side()
	b.Min.Y, b.Max.Y = side()
	b.Min.Z, b.Max.Z = side()
	return b
}

// points are the points of a box, by z, then y, then x.
func points(b api.Box) []api.Vec {
	var l []api.Vec
	for z := b.Min.Z; z < b.Max.Z; z++ {
		for y := b.Min.Y; y < b.Max.Y; y++ {
			for x := b.Min.X; x < b.Max.X; x++ {
				l = append(l, v(x, y, z))
			}
		}
	}
	return l
}

// partsByDefinition is what is left of a without b, of which c are the common points.
func partsByDefinition(a, c api.Box) []api.Box {
	all := []api.Box{
		bx(a.Min.X, a.Min.Y, a.Min.Z, a.Max.X, a.Max.Y, c.Min.Z),
		bx(a.Min.X, a.Min.Y, c.Max.Z, a.Max.X, a.Max.Y, a.Max.Z),
		bx(a.Min.X, a.Min.Y, c.Min.Z, a.Max.X, c.Min.Y, c.Max.Z),
		bx(a.Min.X, c.Max.Y, c.Min.Z, a.Max.X, a.Max.Y, c.Max.Z),
		bx(a.Min.X, c.Min.Y, c.Min.Z, c.Min.X, c.Max.Y, c.Max.Z),
		bx(c.Max.X, c.Min.Y, c.Min.Z, a.Max.X, c.Max.Y, c.Max.Z),
	}
	return slices.DeleteFunc(all, func(b api.Box) bool { return len(points(b)) == 0 })
}

// P6.2, P6.3, P6.4, P6.6: two small boxes, compared point by point.
func TestPairsAgainstPoints(t *testing.T) {
	r := rand.New(rand.NewSource(1))
	touching := 0
	for range 20000 {
		a, b := someBox(r), someBox(r)
		common := 0
		for _, p := range points(a) {
			if slices.Contains(points(b), p) != box.Has(b, p) {
				t.Fatalf("Has(%v, %v)", b, p)
			}
			if box.Has(b, p) {
				common++
			}
		}
		if box.Overlap(a, b) != (common > 0) || box.Inside(a, b) != (common == len(points(a))) {
			t.Fatalf("%v and %v have %d common points", a, b, common)
		}
		c, e := box.Intersect(a, b)
		if (e == api.OK) != (common > 0) || len(points(c)) != common || common > 0 && !(box.Inside(c, a) && box.Inside(c, b)) {
			t.Fatalf("Intersect(%v, %v) = %v, %d", a, b, c, e)
		}
		want := []api.Box{a}
		if common > 0 {
			want = partsByDefinition(a, c)
		}
		parts, e := box.Subtract(a, b)
		if !slices.Equal(parts, want) || e != api.OK {
			t.Fatalf("Subtract(%v, %v) = %v, %d, want %v", a, b, parts, e, want)
		}
		checkParts(t, a, []api.Box{b}, parts)
		touch := touchByMoves(a, b)
		checkTouch(t, a, b, touch)
		if touch >= 0 {
			touching++
		}
		checkMoved(t, a, b, v(r.Intn(9)-4, r.Intn(9)-4, r.Intn(9)-4))
	}
	if touching < 1000 {
		t.Errorf("only %d boxes touch each other", touching)
	}
}

// checkParts checks that each point of b lies in one part if it lies in no box of a list, and otherwise in none, and all parts within b.
func checkParts(t *testing.T, b api.Box, list, parts []api.Box) {
	count := 0
	for _, p := range parts {
		count += len(points(p))
	}
	for _, p := range points(b) {
		has := func(x api.Box) bool { return box.Has(x, p) }
		in := slices.ContainsFunc(parts, has)
		if in == slices.ContainsFunc(list, has) {
			t.Fatalf("the point %v of %v without %v, in %v", p, b, list, parts)
		}
		if in {
			count--
		}
	}
	if count != 0 {
		t.Fatalf("the parts %v of %v overlap or lie outside", parts, b)
	}
}

// touchByMoves is the direction in which b touches a: against it, a step makes them overlap.
func touchByMoves(a, b api.Box) int {
	if box.Overlap(a, b) {
		return -1
	}
	for direction, by := range []api.Vec{v(-1, 0, 0), v(1, 0, 0), v(0, -1, 0), v(0, 1, 0), v(0, 0, -1), v(0, 0, 1)} {
		if moved, _ := box.Move(b, by); box.Overlap(a, moved) {
			return direction
		}
	}
	return -1
}

func checkMoved(t *testing.T, a, b api.Box, by api.Vec) {
	movedA, e := box.Move(a, by)
	movedB, _ := box.Move(b, by)
	back, f := box.Move(movedA, v(-by.X, -by.Y, -by.Z))
	if back != a || e != api.OK || f != api.OK {
		t.Fatalf("%v, moved by %v and back, is %v", a, by, back)
	}
	d, e := box.Touch(a, b)
	moved, f := box.Touch(movedA, movedB)
	if box.Overlap(a, b) != box.Overlap(movedA, movedB) || d != moved || e != f {
		t.Fatalf("moving %v and %v by %v changes how they lie", a, b, by)
	}
	hull, _ := box.Hull(a, b)
	movedHull, _ := box.Hull(movedA, movedB)
	if m, _ := box.Move(hull, by); m != movedHull || !box.Inside(a, hull) || !box.Inside(b, hull) {
		t.Fatalf("Hull(%v, %v) = %v", a, b, hull)
	}
}
