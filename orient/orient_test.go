package orient_test

import (
	"math"
	"math/rand"
	"slices"
	"testing"

	"gangsaw/api"
	"gangsaw/box"
	"gangsaw/orient"
)

const top = api.MaxCoord

func v(x, y, z int) api.Vec { return api.Vec{X: x, Y: y, Z: z} }

func bx(x, y, z, x2, y2, z2 int) api.Box { return api.Box{Min: v(x, y, z), Max: v(x2, y2, z2)} }

func pose(turn, x, y, z int) api.Pose { return api.Pose{Turn: turn, Shift: v(x, y, z)} }

// images are those of (1, 2, 3) under the turns, by their numbers.
func images() []api.Vec {
	return []api.Vec{
		v(1, 2, 3), v(1, -2, -3), v(-1, 2, -3), v(-1, -2, 3),
		v(1, 3, -2), v(1, -3, 2), v(-1, 3, 2), v(-1, -3, -2),
		v(2, 1, -3), v(2, -1, 3), v(-2, 1, 3), v(-2, -1, -3),
		v(2, 3, 1), v(2, -3, -1), v(-2, 3, -1), v(-2, -3, 1),
		v(3, 1, 2), v(3, -1, -2), v(-3, 1, -2), v(-3, -1, 2),
		v(3, 2, -1), v(3, -2, 1), v(-3, 2, 1), v(-3, -2, -1),
	}
}

// P28.1: the numbers of the turns.
func TestApply(t *testing.T) {
	for turn, want := range images() {
		if got, e := orient.Apply(turn, v(1, 2, 3)); got != want || e != api.OK {
			t.Errorf("Apply(%d) = %v, %d", turn, got, e)
		}
	}
	if got, e := orient.Apply(16, v(top, -top, 0)); got != v(0, top, -top) || e != api.OK {
		t.Errorf("Apply = %v, %d", got, e)
	}
	if n, e := orient.Invert(12); n != 16 || e != api.OK {
		t.Errorf("Invert(12) = %d, %d", n, e)
	}
	if n, e := orient.Invert(8); n != 8 || e != api.OK {
		t.Errorf("Invert(8) = %d, %d", n, e)
	}
}

// P28.2, P28.3, P28.4: the examples.
func TestExamples(t *testing.T) {
	if got, e := orient.Box(pose(8, 10, 0, 0), bx(0, 0, 0, 1, 2, 3)); got != bx(10, 0, -3, 12, 1, 0) || e != api.OK {
		t.Errorf("Box = %v, %d", got, e)
	}
	if got, e := orient.Fits(api.BedUp, v(1, 2, 3), v(2, 1, 3)); !slices.Equal(got, []int{9, 10}) || e != api.OK {
		t.Errorf("Fits = %v, %d", got, e)
	}
	if got, e := orient.Place(8, v(1, 2, 3), v(0, 0, 0)); got != pose(8, 0, 0, 3) || e != api.OK {
		t.Errorf("Place = %v, %d", got, e)
	}
	if got, e := orient.Size(8, v(1, 2, 3)); got != v(2, 1, 3) || e != api.OK {
		t.Errorf("Size = %v, %d", got, e)
	}
}

// P28.1, P28.5: the turns are a group, preserve distances and right-handedness.
func TestTurns(t *testing.T) {
	p := v(2, 3, 5)
	cross := func(a, b api.Vec) api.Vec {
		return v(a.Y*b.Z-a.Z*b.Y, a.Z*b.X-a.X*b.Z, a.X*b.Y-a.Y*b.X)
	}
	units := []api.Vec{v(1, 0, 0), v(-1, 0, 0), v(0, 1, 0), v(0, -1, 0), v(0, 0, 1), v(0, 0, -1)}
	for a := range orient.Turns {
		at := func(q api.Vec) api.Vec {
			image, _ := orient.Apply(a, q)
			return image
		}
		if cross(at(units[0]), at(units[2])) != at(units[4]) {
			t.Errorf("the turn %d is not right-handed", a)
		}
		for d, u := range units {
			got, e := orient.Direction(a, d)
			if e != api.OK || units[got] != at(u) {
				t.Errorf("Direction(%d, %d) = %d, %d", a, d, got, e)
			}
		}
		back, e := orient.Invert(a)
		one, f := orient.Compose(a, back)
		two, _ := orient.Compose(back, a)
		if e != api.OK || f != api.OK || one != 0 || two != 0 {
			t.Errorf("Invert(%d) = %d, %d", a, back, e)
		}
		for b := range orient.Turns {
			c, e := orient.Compose(a, b)
			first, _ := orient.Apply(b, p)
			if whole, _ := orient.Apply(c, p); whole != at(first) || e != api.OK {
				t.Errorf("Compose(%d, %d) = %d, %d", a, b, c, e)
			}
		}
	}
}

// P28.4, P28.5
func TestBeds(t *testing.T) {
	for bed, want := range map[int]int{api.BedAny: 24, api.BedNatural: 8, api.BedUp: 4, api.BedEdge: 16} {
		list, e := orient.List(bed)
		if len(list) != want || e != api.OK || !slices.IsSorted(list) {
			t.Errorf("List(%d) = %v, %d", bed, list, e)
		}
		for turn := range orient.Turns {
			up, _ := orient.Apply(turn, v(0, 0, 1))
			isAllowed := map[int]bool{api.BedAny: true, api.BedNatural: up.Z != 0, api.BedUp: up.Z == 1, api.BedEdge: up.Z == 0}[bed]
			if orient.Allowed(bed, turn) != isAllowed || slices.Contains(list, turn) != isAllowed {
				t.Errorf("Allowed(%d, %d) is not %v", bed, turn, isAllowed)
			}
		}
		for _, turn := range []int{-1, 24, math.MaxInt, math.MinInt} {
			if orient.Allowed(bed, turn) {
				t.Errorf("Allowed(%d, %d)", bed, turn)
			}
		}
	}
	for _, bed := range []int{-1, 4, math.MaxInt, math.MinInt} {
		if orient.Allowed(bed, 0) {
			t.Errorf("Allowed(%d, 0)", bed)
		}
	}
	for i, c := range []struct {
		bed         int
		stone, size api.Vec
		want        []int
	}{
		{api.BedAny, v(1, 2, 3), v(1, 2, 3), []int{0, 1, 2, 3}},
		{api.BedAny, v(1, 2, 3), v(3, 1, 2), []int{16, 17, 18, 19}},
		{api.BedNatural, v(2, 2, 3), v(2, 2, 3), []int{0, 1, 2, 3, 8, 9, 10, 11}},
		{api.BedUp, v(2, 2, 3), v(2, 2, 3), []int{0, 3, 9, 10}},
		{api.BedEdge, v(1, 2, 3), v(1, 2, 3), nil},
		{api.BedEdge, v(1, 2, 3), v(3, 2, 1), []int{20, 21, 22, 23}},
		{api.BedUp, v(1, 2, 3), v(1, 2, 4), nil},
	} {
		if got, e := orient.Fits(c.bed, c.stone, c.size); !slices.Equal(got, c.want) || e != api.OK {
			t.Errorf("Fits %d = %v, %d", i, got, e)
		}
	}
}

// P1: turns come first, then the other arguments, then the result.
func TestInvalid(t *testing.T) {
	far := v(top+1, 0, 0)
	for _, n := range []int{-1, 24, math.MaxInt, math.MinInt} {
		check := func(name string, isZero bool, e api.Errno) {
			if !isZero || e != api.ErrInvalid {
				t.Errorf("%s with the turn %d: %v, %d", name, n, isZero, e)
			}
		}
		p, e := orient.Apply(n, far)
		check("Apply", p == v(0, 0, 0), e)
		i, e := orient.Compose(n, 1)
		check("Compose", i == 0, e)
		i, e = orient.Compose(1, n)
		check("Compose", i == 0, e)
		i, e = orient.Invert(n)
		check("Invert", i == 0, e)
		i, e = orient.Direction(n, 2)
		check("Direction", i == 0, e)
		p, e = orient.Point(api.Pose{Turn: n, Shift: far}, far)
		check("Point", p == v(0, 0, 0), e)
		b, e := orient.Box(api.Pose{Turn: n, Shift: far}, api.Box{Max: far})
		check("Box", b == api.Box{}, e)
		q, e := orient.Join(api.Pose{Turn: n}, api.Pose{Shift: far})
		check("Join", q == api.Pose{}, e)
		q, e = orient.Join(api.Pose{Shift: far}, api.Pose{Turn: n})
		check("Join", q == api.Pose{}, e)
		q, e = orient.Undo(api.Pose{Turn: n, Shift: far})
		check("Undo", q == api.Pose{}, e)
		p, e = orient.Size(n, v(1, 1, 1))
		check("Size", p == v(0, 0, 0), e)
		q, e = orient.Place(n, v(1, 1, 1), far)
		check("Place", q == api.Pose{}, e)
	}
	for _, n := range []int{-1, 6, math.MaxInt, math.MinInt} {
		if d, e := orient.Direction(5, n); d != 0 || e != api.ErrInvalid {
			t.Errorf("Direction = %d, %d", d, e)
		}
	}
	for _, n := range []int{-1, 4, math.MaxInt, math.MinInt} {
		if list, e := orient.List(n); list != nil || e != api.ErrInvalid {
			t.Errorf("List = %v, %d", list, e)
		}
		if list, e := orient.Fits(n, v(1, 1, 1), v(1, 1, 1)); list != nil || e != api.ErrInvalid {
			t.Errorf("Fits = %v, %d", list, e)
		}
	}
	for _, n := range []int{0, -1, top + 1, math.MaxInt, math.MinInt} {
		for _, s := range []api.Vec{v(n, 1, 1), v(1, n, 1), v(1, 1, n)} {
			_, e1 := orient.Size(1, s)
			_, e2 := orient.Place(1, s, far)
			_, e3 := orient.Fits(0, s, v(1, 1, 1))
			_, e4 := orient.Fits(0, v(1, 1, 1), s)
			if e1 != api.ErrInvalid || e2 != api.ErrInvalid || e3 != api.ErrInvalid || e4 != api.ErrInvalid {
				t.Errorf("size %v: %d, %d, %d, %d", s, e1, e2, e3, e4)
			}
		}
	}
	for i, b := range []api.Box{{}, bx(0, 0, 0, 0, 1, 1), bx(0, 0, 0, 1, 0, 1), bx(0, 0, 0, 1, 1, 0), bx(2, 0, 0, 1, 1, 1), bx(-top-1, 0, 0, 1, 1, 1), bx(0, -top-1, 0, 1, 1, 1), bx(0, 0, 0, 1, 1, top+1), bx(math.MinInt, 0, 0, math.MaxInt, 1, 1)} {
		if got, e := orient.Box(api.Pose{Shift: far}, b); got != (api.Box{}) || e != api.ErrInvalid {
			t.Errorf("Box %d: %v, %d", i, got, e)
		}
	}
}

// P1: coordinates of arguments and results.
func TestRange(t *testing.T) {
	for _, n := range []int{top + 1, -top - 1, math.MaxInt, math.MinInt} {
		for _, p := range []api.Vec{v(n, 0, 0), v(0, n, 0), v(0, 0, n)} {
			_, e1 := orient.Apply(3, p)
			_, e2 := orient.Point(pose(3, 0, 0, 0), p)
			_, e3 := orient.Point(api.Pose{Turn: 3, Shift: p}, v(0, 0, 0))
			_, e4 := orient.Box(api.Pose{Turn: 3, Shift: p}, bx(0, 0, 0, 1, 1, 1))
			_, e5 := orient.Join(api.Pose{Turn: 3, Shift: p}, api.Pose{})
			_, e6 := orient.Join(api.Pose{}, api.Pose{Turn: 3, Shift: p})
			_, e7 := orient.Undo(api.Pose{Turn: 3, Shift: p})
			_, e8 := orient.Place(0, v(1, 1, 1), p)
			for i, e := range []api.Errno{e1, e2, e3, e4, e5, e6, e7, e8} {
				if e != api.ErrRange {
					t.Errorf("%v, call %d: %d", p, i, e)
				}
			}
		}
	}
	// The results just reach the ends, or go beyond them.
	if p, e := orient.Point(pose(0, 1, 2, 3), v(top-1, top-2, -top)); p != v(top, top, 3-top) || e != api.OK {
		t.Errorf("Point = %v, %d", p, e)
	}
	if p, e := orient.Point(pose(0, 1, 2, 3), v(top-1, top-1, 0)); p != v(0, 0, 0) || e != api.ErrRange {
		t.Errorf("Point = %v, %d", p, e)
	}
	if b, e := orient.Box(pose(2, 1, 0, 0), bx(0, 0, 0, top, 1, 1)); b != bx(1-top, 0, -1, 1, 1, 0) || e != api.OK {
		t.Errorf("Box = %v, %d", b, e)
	}
	if b, e := orient.Box(pose(2, -1, 0, 0), bx(0, 0, 0, top, 1, 1)); b != (api.Box{}) || e != api.ErrRange {
		t.Errorf("Box = %v, %d", b, e)
	}
	if q, e := orient.Join(pose(0, 1, 0, 0), pose(0, top, 0, 0)); q != (api.Pose{}) || e != api.ErrRange {
		t.Errorf("Join = %v, %d", q, e)
	}
	if q, e := orient.Join(pose(2, 1, 0, 0), pose(0, top, 0, 0)); q != pose(2, 1-top, 0, 0) || e != api.OK {
		t.Errorf("Join = %v, %d", q, e)
	}
	if q, e := orient.Place(0, v(2, 1, 1), v(top-2, 0, 0)); q != pose(0, top-2, 0, 0) || e != api.OK {
		t.Errorf("Place = %v, %d", q, e)
	}
	if q, e := orient.Place(0, v(2, 1, 1), v(top-1, 0, 0)); q != (api.Pose{}) || e != api.ErrRange {
		t.Errorf("Place = %v, %d", q, e)
	}
	if q, e := orient.Place(2, v(2, 1, 1), v(top-1, 0, 0)); q != (api.Pose{}) || e != api.ErrRange {
		t.Errorf("Place = %v, %d", q, e)
	}
	if q, e := orient.Place(3, v(top, top, 1), v(0, -top, 5)); q != pose(3, top, 0, 5) || e != api.OK {
		t.Errorf("Place = %v, %d", q, e)
	}
}

func randomPose(r *rand.Rand) api.Pose {
	return pose(r.Intn(orient.Turns), r.Intn(21)-10, r.Intn(21)-10, r.Intn(21)-10)
}

func randomBox(r *rand.Rand) api.Box {
	x, y, z := r.Intn(9)-4, r.Intn(9)-4, r.Intn(9)-4
	return bx(x, y, z, x+1+r.Intn(5), y+1+r.Intn(5), z+1+r.Intn(5))
}

// P28.2, P28.3, P28.5
func TestPoses(t *testing.T) {
	r := rand.New(rand.NewSource(1))
	for range 3000 {
		a, b := randomPose(r), randomPose(r)
		p := v(r.Intn(9)-4, r.Intn(9)-4, r.Intn(9)-4)
		first, _ := orient.Point(b, p)
		want, _ := orient.Point(a, first)
		both, e := orient.Join(a, b)
		if got, _ := orient.Point(both, p); got != want || e != api.OK {
			t.Fatalf("Join(%v, %v) = %v, %d", a, b, both, e)
		}
		back, e := orient.Undo(a)
		one, _ := orient.Join(a, back)
		two, _ := orient.Join(back, a)
		if one != (api.Pose{}) || two != (api.Pose{}) || e != api.OK {
			t.Fatalf("Undo(%v) = %v, %d", a, back, e)
		}
		c, d := randomBox(r), randomBox(r)
		imageC, e := orient.Box(a, c)
		imageD, _ := orient.Box(a, d)
		size, _ := orient.Size(a.Turn, box.Size(c))
		again, _ := orient.Box(back, imageC)
		if e != api.OK || box.Overlap(imageC, imageD) != box.Overlap(c, d) || box.Size(imageC) != size || again != c {
			t.Fatalf("Box(%v, %v) = %v, %d", a, c, imageC, e)
		}
		unit := api.Box{Min: p, Max: v(p.X+1, p.Y+1, p.Z+1)}
		imageUnit, _ := orient.Box(a, unit)
		if box.Inside(unit, c) != box.Inside(imageUnit, imageC) {
			t.Fatalf("Box(%v, %v) = %v does not have %v", a, c, imageC, imageUnit)
		}
		whole := box.Size(c)
		placed, e := orient.Place(a.Turn, whole, p)
		if at, _ := orient.Box(placed, api.Box{Max: whole}); at.Min != p || placed.Turn != a.Turn || e != api.OK {
			t.Fatalf("Place(%d, %v, %v) = %v, %d", a.Turn, whole, p, placed, e)
		}
	}
}
