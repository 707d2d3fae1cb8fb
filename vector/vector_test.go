package vector_test

import (
	"math"
	"math/rand"
	"slices"
	"testing"

	"gangsaw/api"
	"gangsaw/vector"
)

const top = api.MaxCoord

func v(x, y, z int) api.Vec { return api.Vec{X: x, Y: y, Z: z} }

// wrong are vectors with one coordinate, or all, out of range.
func wrong() []api.Vec {
	list := []api.Vec{v(math.MinInt, math.MinInt, math.MinInt), v(math.MaxInt, math.MaxInt, math.MaxInt)}
	for _, c := range []int{top + 1, -top - 1, math.MaxInt, math.MinInt} {
		list = append(list, v(c, 0, 0), v(0, c, 0), v(0, 0, c))
	}
	return list
}

// P3.1
func TestCheck(t *testing.T) {
	for _, a := range []api.Vec{v(0, 0, 0), v(top, top, top), v(-top, -top, -top), v(top, -top, 5), v(-1, 2, -top)} {
		if e := vector.Check(a); e != api.OK {
			t.Errorf("Check(%v) = %d", a, e)
		}
	}
	for _, a := range wrong() {
		if e := vector.Check(a); e != api.ErrRange {
			t.Errorf("Check(%v) = %d", a, e)
		}
	}
}

// P3.1
func TestAddAndSub(t *testing.T) {
	for _, c := range []struct {
		a, b, sum api.Vec
		eSum      api.Errno
		diff      api.Vec
		eDiff     api.Errno
	}{
		{v(1, 2, 3), v(10, 20, -30), v(11, 22, -27), 0, v(-9, -18, 33), 0},
		{v(0, 0, 0), v(-4, 5, -6), v(-4, 5, -6), 0, v(4, -5, 6), 0},
		{v(top, top, top), v(0, 0, 0), v(top, top, top), 0, v(top, top, top), 0},
		{v(top-1, 1-top, 0), v(1, -1, top), v(top, -top, top), 0, v(top-2, 2-top, -top), 0},
		{v(top, 0, 0), v(1, 0, 0), v(0, 0, 0), api.ErrRange, v(top-1, 0, 0), 0},
		{v(0, -top, 0), v(0, -1, 0), v(0, 0, 0), api.ErrRange, v(0, 1-top, 0), 0},
		{v(0, 0, top), v(0, 0, -1), v(0, 0, top-1), 0, v(0, 0, 0), api.ErrRange},
		{v(7, 0, -top), v(1, 0, 1), v(8, 0, 1-top), 0, v(0, 0, 0), api.ErrRange},
		{v(top, top, top), v(top, top, top), v(0, 0, 0), api.ErrRange, v(0, 0, 0), 0},
		{v(top, top, top), v(-top, -top, -top), v(0, 0, 0), 0, v(0, 0, 0), api.ErrRange},
	} {
		if got, e := vector.Add(c.a, c.b); got != c.sum || e != c.eSum {
			t.Errorf("Add(%v, %v) = %v, %d, want %v, %d", c.a, c.b, got, e, c.sum, c.eSum)
		}
		if got, e := vector.Sub(c.a, c.b); got != c.diff || e != c.eDiff {
			t.Errorf("Sub(%v, %v) = %v, %d, want %v, %d", c.a, c.b, got, e, c.diff, c.eDiff)
		}
	}
}

// P3.1: the order, for vectors in range and out of it.
func TestCompare(t *testing.T) {
	ordered := []api.Vec{
		v(math.MinInt, math.MaxInt, 0), v(-top-1, 9, 9), v(-1, 0, 0), v(0, -5, 9), v(0, 0, -1), v(0, 0, 0), v(0, 0, 7),
		v(0, 1, -7), v(1, -9, -9), v(1, 2, 3), v(1, 2, 4), v(1, 3, 3), v(2, 2, 3), v(top+1, 0, 0), v(math.MaxInt, math.MinInt, math.MinInt),
	}
	for i, a := range ordered {
		for k, b := range ordered {
			want := 0
			if i < k {
				want = -1
			} else if i > k {
				want = 1
			}
			if got := vector.Compare(a, b); got != want {
				t.Errorf("Compare(%v, %v) = %d, want %d", a, b, got, want)
			}
		}
	}
}

// P3.2
func TestProducts(t *testing.T) {
	const square = int64(top) * int64(top)
	for _, c := range []struct {
		a, b     api.Vec
		dot      int64
		cross    [3]int64
		distance int64
	}{
		{v(1, 2, 3), v(4, 5, 6), 32, [3]int64{-3, 6, -3}, 27},
		{v(0, 0, 0), v(1, 2, 2), 0, [3]int64{}, 9},
		{v(1, 0, 0), v(0, 1, 0), 0, [3]int64{0, 0, 1}, 2},
		{v(0, 1, 0), v(0, 0, 1), 0, [3]int64{1, 0, 0}, 2},
		{v(0, 0, 1), v(1, 0, 0), 0, [3]int64{0, 1, 0}, 2},
		{v(-2, 3, 5), v(7, -11, 13), 18, [3]int64{94, 61, 1}, 341},
		{v(top, top, top), v(top, top, top), 3 * square, [3]int64{}, 0},
		{v(top, top, top), v(-top, -top, -top), -3 * square, [3]int64{}, 12 * square},
		{v(top, -top, 0), v(top, top, 0), 0, [3]int64{0, 0, 2 * square}, 4 * square},
		{v(top, 0, -top), v(-top, 0, -top), 0, [3]int64{0, 2 * square, 0}, 4 * square},
	} {
		if got, e := vector.Dot(c.a, c.b); got != c.dot || e != api.OK {
			t.Errorf("Dot(%v, %v) = %d, %d, want %d", c.a, c.b, got, e, c.dot)
		}
		if got, e := vector.Cross(c.a, c.b); got != c.cross || e != api.OK {
			t.Errorf("Cross(%v, %v) = %v, %d, want %v", c.a, c.b, got, e, c.cross)
		}
		if got, e := vector.Distance(c.a, c.b); got != c.distance || e != api.OK {
			t.Errorf("Distance(%v, %v) = %d, %d, want %d", c.a, c.b, got, e, c.distance)
		}
	}
}

// P3.3
func TestPrimitive(t *testing.T) {
	for _, c := range []struct {
		a, want api.Vec
		factor  int
		e       api.Errno
	}{
		{v(6, -9, 0), v(2, -3, 0), 3, api.OK},
		{v(2, -3, 0), v(2, -3, 0), 1, api.OK},
		{v(0, 0, -8), v(0, 0, -1), 8, api.OK},
		{v(0, 12, 18), v(0, 2, 3), 6, api.OK},
		{v(-6, -10, -15), v(-6, -10, -15), 1, api.OK},
		{v(-12, -20, -28), v(-3, -5, -7), 4, api.OK},
		{v(top, top, -top), v(1, 1, -1), top, api.OK},
		{v(-top, 0, 0), v(-1, 0, 0), top, api.OK},
		{v(top, 999999, 0), v(top, 999999, 0), 1, api.OK},
		{v(0, 0, 0), v(0, 0, 0), 0, api.ErrInvalid},
	} {
		if got, n, e := vector.Primitive(c.a); got != c.want || n != c.factor || e != c.e {
			t.Errorf("Primitive(%v) = %v, %d, %d, want %v, %d, %d", c.a, got, n, e, c.want, c.factor, c.e)
		}
	}
}

// P1: every function that takes vectors refuses one out of range, wherever it stands.
func TestRange(t *testing.T) {
	good := v(0, 0, 0)
	for _, a := range wrong() {
		for _, p := range [][2]api.Vec{{a, good}, {good, a}, {a, a}} {
			if got, e := vector.Add(p[0], p[1]); got != good || e != api.ErrRange {
				t.Errorf("Add(%v) = %v, %d", p, got, e)
			}
			if got, e := vector.Sub(p[0], p[1]); got != good || e != api.ErrRange {
				t.Errorf("Sub(%v) = %v, %d", p, got, e)
			}
			if got, e := vector.Dot(p[0], p[1]); got != 0 || e != api.ErrRange {
				t.Errorf("Dot(%v) = %v, %d", p, got, e)
			}
			if got, e := vector.Cross(p[0], p[1]); got != [3]int64{} || e != api.ErrRange {
				t.Errorf("Cross(%v) = %v, %d", p, got, e)
			}
			if got, e := vector.Distance(p[0], p[1]); got != 0 || e != api.ErrRange {
				t.Errorf("Distance(%v) = %v, %d", p, got, e)
			}
		}
		if got, n, e := vector.Primitive(a); got != good || n != 0 || e != api.ErrRange {
			t.Errorf("Primitive(%v) = %v, %d, %d", a, got, n, e)
		}
	}
}

func someVec(r *rand.Rand, most int) api.Vec {
	one := func() int { return r.Intn(2*most+1) - most }
	return v(one(), one(), one())
}

// P3.1, P3.2, P3.3, P3.6
func TestLawsOfVectors(t *testing.T) {
	r := rand.New(rand.NewSource(1))
	for i := range 5000 {
		most := []int{3, 40, top}[i%3]
		a, b := someVec(r, most), someVec(r, most)
		checkSums(t, a, b)
		checkProducts(t, a, b)
		checkPrimitive(t, a)
	}
}

func checkSums(t *testing.T, a, b api.Vec) {
	sum, e := vector.Add(a, b)
	if e == api.OK {
		back, f := vector.Sub(sum, b)
		if f != api.OK || back != a {
			t.Fatalf("%v + %v - %v = %v, %d", a, b, b, back, f)
		}
	} else if vector.Check(v(a.X+b.X, a.Y+b.Y, a.Z+b.Z)) == api.OK {
		t.Fatalf("Add(%v, %v): %d", a, b, e)
	}
	if vector.Compare(a, b) != -vector.Compare(b, a) {
		t.Fatalf("Compare(%v, %v)", a, b)
	}
}

func checkProducts(t *testing.T, a, b api.Vec) {
	cross, _ := vector.Cross(a, b)
	turned, _ := vector.Cross(b, a)
	for _, x := range []api.Vec{a, b} {
		// The sum may leave the range of 64 bits, but wraps around to 0 if it is 0.
		if cross[0]*int64(x.X)+cross[1]*int64(x.Y)+cross[2]*int64(x.Z) != 0 {
			t.Fatalf("Cross(%v, %v) = %v is not orthogonal", a, b, cross)
		}
	}
	for i := range cross {
		if cross[i] != -turned[i] {
			t.Fatalf("Cross(%v, %v) = %v, exchanged %v", a, b, cross, turned)
		}
	}
	dot, _ := vector.Dot(a, b)
	aa, _ := vector.Dot(a, a)
	bb, _ := vector.Dot(b, b)
	distance, _ := vector.Distance(a, b)
	if distance != aa+bb-2*dot {
		t.Fatalf("Distance(%v, %v) = %d", a, b, distance)
	}
}

func checkPrimitive(t *testing.T, a api.Vec) {
	p, n, e := vector.Primitive(a)
	if a == (api.Vec{}) {
		return
	}
	if e != api.OK || n < 1 || v(p.X*n, p.Y*n, p.Z*n) != a {
		t.Fatalf("Primitive(%v) = %v, %d, %d", a, p, n, e)
	}
	again, one, _ := vector.Primitive(p)
	if again != p || one != 1 {
		t.Fatalf("Primitive(%v) = %v, %d", p, again, one)
	}
}

// P3.3: no factor of the primitive vector is left, by trial.
func TestPrimitiveByTrial(t *testing.T) {
	for x := -6; x <= 6; x++ {
		for y := -6; y <= 6; y++ {
			for z := -6; z <= 6; z++ {
				p, _, _ := vector.Primitive(v(x, y, z))
				for d := 2; d <= 6 && p != v(0, 0, 0); d++ {
					if p.X%d == 0 && p.Y%d == 0 && p.Z%d == 0 {
						t.Errorf("Primitive(%d, %d, %d) = %v", x, y, z, p)
					}
				}
			}
		}
	}
}

// P3.1: sorting by Compare sorts by X, then Y, then Z.
func TestSorting(t *testing.T) {
	r := rand.New(rand.NewSource(2))
	var list []api.Vec
	for range 300 {
		list = append(list, someVec(r, 2))
	}
	slices.SortFunc(list, vector.Compare)
	key := func(a api.Vec) int { return 25*a.X + 5*a.Y + a.Z }
	for i := 1; i < len(list); i++ {
		if key(list[i-1]) > key(list[i]) {
			t.Fatalf("%v stands before %v", list[i-1], list[i])
		}
	}
}
