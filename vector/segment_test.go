package vector_test

import (
	"math"
	"math/big"
	"math/rand"
	"testing"

	"gangsaw/api"
	"gangsaw/vector"
)

func pt(x, y int) api.Point { return api.Point{X: x, Y: y} }

// P3.4
func TestTurn(t *testing.T) {
	for _, c := range []struct {
		a, b, c api.Point
		want    int
	}{
		{pt(0, 0), pt(10, 0), pt(5, 1), 1},
		{pt(0, 0), pt(10, 0), pt(5, -1), -1},
		{pt(0, 0), pt(10, 0), pt(20, 0), 0},
		{pt(0, 0), pt(10, 0), pt(-3, 0), 0},
		{pt(1, 1), pt(1, 1), pt(5, 7), 0},
		{pt(1, 1), pt(5, 7), pt(1, 1), 0},
		{pt(1, 1), pt(5, 7), pt(5, 7), 0},
		{pt(2, 3), pt(4, 7), pt(5, 9), 0},
		{pt(2, 3), pt(4, 7), pt(5, 10), 1},
		{pt(2, 3), pt(4, 7), pt(6, 10), -1},
		{pt(-top, -top), pt(top, top), pt(-top, top), 1},
		{pt(-top, -top), pt(top, top), pt(top, -top), -1},
		{pt(-top, -top), pt(top, top), pt(top-1, top), 1},
		{pt(-top, -top), pt(top, top), pt(top, top-1), -1},
	} {
		if got, e := vector.Turn(c.a, c.b, c.c); got != c.want || e != api.OK {
			t.Errorf("Turn(%v, %v, %v) = %d, %d, want %d", c.a, c.b, c.c, got, e, c.want)
		}
	}
}

// P3.4
func TestOn(t *testing.T) {
	for _, c := range []struct {
		a, b, p api.Point
		want    bool
	}{
		{pt(0, 0), pt(10, 0), pt(5, 0), true},
		{pt(0, 0), pt(10, 0), pt(11, 0), false},
		{pt(0, 0), pt(10, 0), pt(-1, 0), false},
		{pt(0, 0), pt(10, 0), pt(0, 0), true},
		{pt(0, 0), pt(10, 0), pt(10, 0), true},
		{pt(0, 0), pt(10, 0), pt(5, 1), false},
		{pt(0, 10), pt(0, 0), pt(0, 5), true},
		{pt(0, 10), pt(0, 0), pt(0, 11), false},
		{pt(0, 10), pt(0, 0), pt(0, -1), false},
		{pt(0, 0), pt(4, 6), pt(2, 3), true},
		{pt(0, 0), pt(4, 6), pt(6, 9), false},
		{pt(0, 0), pt(4, 6), pt(2, 2), false},
		{pt(3, 3), pt(3, 3), pt(3, 3), true},
		{pt(3, 3), pt(3, 3), pt(3, 4), false},
		{pt(3, 3), pt(3, 3), pt(4, 3), false},
		{pt(-top, -top), pt(top, top), pt(0, 0), true},
		{pt(-top, -top), pt(top, top), pt(0, 1), false},
	} {
		if got, e := vector.On(c.a, c.b, c.p); got != c.want || e != api.OK {
			t.Errorf("On(%v, %v, %v) = %v, %d", c.a, c.b, c.p, got, e)
		}
	}
}

// P3.5
func TestMeet(t *testing.T) {
	for _, c := range []struct {
		a, b, c, d api.Point
		want       int
	}{
		{pt(0, 0), pt(10, 10), pt(0, 10), pt(10, 0), 1},
		{pt(0, 0), pt(10, 0), pt(5, 0), pt(20, 0), 2},
		{pt(0, 0), pt(5, 0), pt(5, 0), pt(9, 0), 1},
		{pt(0, 0), pt(5, 0), pt(6, 0), pt(9, 0), 0},
		{pt(0, 0), pt(9, 0), pt(3, 0), pt(5, 0), 2},
		{pt(0, 0), pt(9, 0), pt(0, 0), pt(9, 0), 2},
		{pt(0, 0), pt(9, 0), pt(0, 0), pt(3, 0), 2},
		{pt(2, 0), pt(2, 5), pt(2, 4), pt(2, 9), 2},
		{pt(2, 0), pt(2, 5), pt(2, 5), pt(2, 9), 1},
		{pt(2, 0), pt(2, 5), pt(2, 6), pt(2, 9), 0},
		{pt(0, 0), pt(9, 0), pt(0, 1), pt(9, 1), 0},
		{pt(0, 0), pt(1, 1), pt(0, 1), pt(5, 0), 1},
		{pt(0, 0), pt(1, 0), pt(0, 1), pt(3, 1), 0},
		{pt(0, 0), pt(4, 0), pt(2, 0), pt(2, 5), 1},
		{pt(0, 0), pt(4, 0), pt(2, 1), pt(2, 5), 0},
		{pt(0, 0), pt(4, 0), pt(5, -3), pt(5, 3), 0},
		{pt(0, 0), pt(4, 0), pt(4, 0), pt(6, 3), 1},
		{pt(3, 3), pt(3, 3), pt(3, 3), pt(3, 3), 1},
		{pt(3, 3), pt(3, 3), pt(3, 4), pt(3, 4), 0},
		{pt(3, 3), pt(3, 3), pt(2, 2), pt(5, 5), 1},
		{pt(3, 3), pt(3, 3), pt(4, 4), pt(5, 5), 0},
		{pt(3, 3), pt(3, 3), pt(2, 3), pt(2, 9), 0},
		{pt(-top, -top), pt(top, top), pt(top, -top), pt(-top, top), 1},
		{pt(-top, -top), pt(top, top-1), pt(-top, 1-top), pt(top, top), 0},
	} {
		for _, p := range arrangements(c.a, c.b, c.c, c.d) {
			if got, e := vector.Meet(p[0], p[1], p[2], p[3]); got != c.want || e != api.OK {
				t.Errorf("Meet(%v) = %d, %d, want %d", p, got, e, c.want)
			}
		}
	}
}

// arrangements are all orders of two segments and of their ends.
func arrangements(a, b, c, d api.Point) [][4]api.Point {
	return [][4]api.Point{
		{a, b, c, d}, {b, a, c, d}, {a, b, d, c}, {b, a, d, c},
		{c, d, a, b}, {d, c, a, b}, {c, d, b, a}, {d, c, b, a},
	}
}

// P1: every function that takes points refuses one out of range, wherever it stands.
func TestRangeOfPoints(t *testing.T) {
	var bad []api.Point
	for _, c := range []int{top + 1, -top - 1, math.MaxInt, math.MinInt} {
		bad = append(bad, pt(c, 0), pt(0, c), pt(c, c))
	}
	for _, p := range bad {
		for i := range 4 {
			var q [4]api.Point
			q[i] = p
			if got, e := vector.Meet(q[0], q[1], q[2], q[3]); got != 0 || e != api.ErrRange {
				t.Errorf("Meet(%v) = %d, %d", q, got, e)
			}
			if i == 3 {
				continue
			}
			if got, e := vector.Turn(q[0], q[1], q[2]); got != 0 || e != api.ErrRange {
				t.Errorf("Turn(%v) = %d, %d", q[:3], got, e)
			}
			if got, e := vector.On(q[0], q[1], q[2]); got || e != api.ErrRange {
				t.Errorf("On(%v) = %v, %d", q[:3], got, e)
			}
		}
	}
}

// counted counts the common points of two segments from the solution of two linear equations.
func counted(a, b, c, d api.Point) int {
	ux, uy, wx, wy := b.X-a.X, b.Y-a.Y, d.X-c.X, d.Y-c.Y
	px, py := c.X-a.X, c.Y-a.Y
	if det := ux*wy - uy*wx; det != 0 {
		s := big.NewRat(int64(px*wy-py*wx), int64(det))
		u := big.NewRat(int64(px*uy-py*ux), int64(det))
		if inUnit(s) && inUnit(u) {
			return 1
		}
		return 0
	}
	if a == b {
		return countedPoint(c, d, a)
	}
	if px*uy != py*ux || wx*uy != wy*ux {
		return 0
	}
	// Places along the line from a to b, in units of its square.
	from, to := px*ux+py*uy, (px+wx)*ux+(py+wy)*uy
	lo, hi := max(0, min(from, to)), min(ux*ux+uy*uy, max(from, to))
	if lo > hi {
		return 0
	}
	if lo == hi {
		return 1
	}
	return 2
}

// countedPoint counts the common points of a segment and a point: the way over the point is no detour.
func countedPoint(c, d, p api.Point) int {
	toC, toD := pt(c.X-p.X, c.Y-p.Y), pt(d.X-p.X, d.Y-p.Y)
	if toC.X*toD.Y == toC.Y*toD.X && toC.X*toD.X+toC.Y*toD.Y <= 0 {
		return 1
	}
	return 0
}

func inUnit(r *big.Rat) bool { return r.Sign() >= 0 && r.Cmp(big.NewRat(1, 1)) <= 0 }

func somePoint(r *rand.Rand, n int) api.Point { return pt(r.Intn(n), r.Intn(n)) }

// P3.4, P3.5, P3.6
func TestSegmentsAgainstEquations(t *testing.T) {
	r := rand.New(rand.NewSource(3))
	seen := map[int]int{}
	for i := range 30000 {
		n := 3 + i%5
		a, b, c, d := somePoint(r, n), somePoint(r, n), somePoint(r, n), somePoint(r, n)
		want := counted(a, b, c, d)
		seen[want]++
		for _, p := range arrangements(a, b, c, d) {
			if got, e := vector.Meet(p[0], p[1], p[2], p[3]); got != want || e != api.OK {
				t.Fatalf("Meet(%v) = %d, %d, want %d", p, got, e, want)
			}
		}
		on, _ := vector.On(a, b, c)
		if n, _ := vector.Meet(a, b, c, c); on != (n == 1) || on != (countedPoint(a, b, c) == 1) {
			t.Fatalf("On(%v, %v, %v) = %v", a, b, c, on)
		}
		checkTurns(t, a, b, c)
	}
	if len(seen) != 3 {
		t.Errorf("not all numbers occur: %v", seen)
	}
}

func checkTurns(t *testing.T, a, b, c api.Point) {
	turn := func(p, q, s api.Point) int {
		n, e := vector.Turn(p, q, s)
		if e != api.OK {
			t.Fatalf("Turn(%v, %v, %v): %d", p, q, s, e)
		}
		return n
	}
	n := turn(a, b, c)
	if turn(b, c, a) != n || turn(c, a, b) != n || turn(b, a, c) != -n || turn(a, c, b) != -n || turn(c, b, a) != -n {
		t.Fatalf("turns of %v, %v, %v", a, b, c)
	}
}
