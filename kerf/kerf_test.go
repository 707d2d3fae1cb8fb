package kerf_test

import (
	"math"
	"math/rand"
	"slices"
	"testing"

	"gangsaw/api"
	"gangsaw/kerf"
)

const top = api.MaxCoord

func bx(x, y, z, x2, y2, z2 int) api.Box {
	return api.Box{Min: api.Vec{X: x, Y: y, Z: z}, Max: api.Vec{X: x2, Y: y2, Z: z2}}
}

func cut(axis, at, width int) kerf.Cut { return kerf.Cut{Axis: axis, At: at, Kerf: width} }

func everything() api.Box { return bx(-top, -top, -top, top, top, top) }

// badBoxes are boxes that are not valid, with their errors.
func badBoxes() map[api.Box]api.Errno {
	return map[api.Box]api.Errno{
		{}: api.ErrInvalid, bx(0, 0, 5, 9, 9, 5): api.ErrInvalid, bx(0, 9, 0, 9, 8, 9): api.ErrInvalid,
		bx(0, 0, 0, 1, 1, top+1): api.ErrRange, bx(-top-1, 0, 0, 1, 1, 1): api.ErrRange, bx(math.MinInt, 0, 0, math.MaxInt, 1, 1): api.ErrRange,
	}
}

func badAxes() []int { return []int{-1, 3, math.MaxInt, math.MinInt} }

func badKerfs() []int { return []int{-1, 1001, math.MaxInt, math.MinInt} }

func volume(b api.Box) int64 {
	return int64(b.Max.X-b.Min.X) * int64(b.Max.Y-b.Min.Y) * int64(b.Max.Z-b.Min.Z)
}

// P23.1
func TestSplit(t *testing.T) {
	b := bx(0, 0, 0, 100, 10, 20)
	for _, c := range []struct {
		c                   kerf.Cut
		first, lost, second api.Box
		loss                int64
	}{
		{cut(0, 40, 8), bx(0, 0, 0, 40, 10, 20), bx(40, 0, 0, 48, 10, 20), bx(48, 0, 0, 100, 10, 20), 1600},
		{cut(0, 1, 98), bx(0, 0, 0, 1, 10, 20), bx(1, 0, 0, 99, 10, 20), bx(99, 0, 0, 100, 10, 20), 19600},
		{cut(0, 99, 0), bx(0, 0, 0, 99, 10, 20), api.Box{}, bx(99, 0, 0, 100, 10, 20), 0},
		{cut(1, 3, 2), bx(0, 0, 0, 100, 3, 20), bx(0, 3, 0, 100, 5, 20), bx(0, 5, 0, 100, 10, 20), 4000},
		{cut(2, 19, 0), bx(0, 0, 0, 100, 10, 19), api.Box{}, bx(0, 0, 19, 100, 10, 20), 0},
		{cut(2, 10, 9), bx(0, 0, 0, 100, 10, 10), bx(0, 0, 10, 100, 10, 19), bx(0, 0, 19, 100, 10, 20), 9000},
	} {
		first, lost, second, e := kerf.Split(b, c.c)
		if first != c.first || lost != c.lost || second != c.second || e != api.OK || kerf.Check(b, c.c) != api.OK {
			t.Errorf("Split(%v) = %v, %v, %v, %d", c.c, first, lost, second, e)
		}
		if n, e := kerf.Loss(b, c.c); n != c.loss || e != api.OK {
			t.Errorf("Loss(%v) = %d, %d", c.c, n, e)
		}
	}
	if n, e := kerf.Loss(bx(0, 0, 0, 100, 10, 10), cut(0, 40, 8)); n != 800 || e != api.OK {
		t.Errorf("Loss of the example: %d, %d", n, e)
	}
	if n, e := kerf.Loss(everything(), cut(2, 0, 1000)); n != 4000*top*top || e != api.OK {
		t.Errorf("Loss of everything: %d, %d", n, e)
	}
}

func checkRefused(t *testing.T, b api.Box, c kerf.Cut, want api.Errno) {
	t.Helper()
	first, lost, second, e := kerf.Split(b, c)
	n, f := kerf.Loss(b, c)
	if g := kerf.Check(b, c); e != want || f != want || g != want {
		t.Errorf("the cut %v of %v: %d, %d, %d, want %d", c, b, e, f, g, want)
	}
	if first != (api.Box{}) || lost != (api.Box{}) || second != (api.Box{}) || n != 0 {
		t.Errorf("the cut %v of %v: %v, %v, %v, %d", c, b, first, lost, second, n)
	}
}

// P1, P23.1
func TestCutErrors(t *testing.T) {
	b := bx(0, 0, 0, 100, 10, 20)
	for bad, e := range badBoxes() {
		checkRefused(t, bad, cut(7, 0, -1), e)
	}
	for _, axis := range badAxes() {
		checkRefused(t, b, cut(axis, 0, -1), api.ErrInvalid)
	}
	for _, width := range badKerfs() {
		checkRefused(t, b, cut(0, 0, width), api.ErrRange)
	}
	for _, c := range []kerf.Cut{
		cut(0, 0, 0), cut(0, 100, 0), cut(0, 99, 1), cut(0, 92, 8), cut(0, -1, 5), cut(1, 10, 0), cut(1, 0, 0), cut(1, 50, 0), cut(2, 15, 5), cut(2, 10, 1000),
		cut(0, math.MaxInt, 1000), cut(0, math.MaxInt-999, 1000), cut(0, math.MinInt, 1000), cut(0, math.MinInt, 0),
	} {
		checkRefused(t, b, c, api.ErrOutside)
	}
}

// P23.2
func TestJoin(t *testing.T) {
	a := bx(0, 0, 0, 10, 20, 30)
	for _, c := range []struct {
		second api.Box
		axis   int
		whole  api.Box
		c      kerf.Cut
		e      api.Errno
	}{
		{bx(14, 0, 0, 50, 20, 30), 0, bx(0, 0, 0, 50, 20, 30), cut(0, 10, 4), api.OK},
		{bx(10, 0, 0, 50, 20, 30), 0, bx(0, 0, 0, 50, 20, 30), cut(0, 10, 0), api.OK},
		{bx(1010, 0, 0, 1011, 20, 30), 0, bx(0, 0, 0, 1011, 20, 30), cut(0, 10, 1000), api.OK},
		{bx(1011, 0, 0, 1012, 20, 30), 0, api.Box{}, kerf.Cut{}, api.ErrConflict},
		{bx(9, 0, 0, 50, 20, 30), 0, api.Box{}, kerf.Cut{}, api.ErrConflict},
		{bx(-50, 0, 0, 0, 20, 30), 0, api.Box{}, kerf.Cut{}, api.ErrConflict},
		{bx(14, 0, 0, 50, 20, 31), 0, api.Box{}, kerf.Cut{}, api.ErrConflict},
		{bx(14, 1, 0, 50, 20, 30), 0, api.Box{}, kerf.Cut{}, api.ErrConflict},
		{bx(14, 0, 0, 50, 20, 30), 1, api.Box{}, kerf.Cut{}, api.ErrConflict},
		{bx(0, 25, 0, 10, 26, 30), 1, bx(0, 0, 0, 10, 26, 30), cut(1, 20, 5), api.OK},
		{bx(0, 0, 31, 10, 20, 40), 2, bx(0, 0, 0, 10, 20, 40), cut(2, 30, 1), api.OK},
		{bx(0, 0, 31, 11, 20, 40), 2, api.Box{}, kerf.Cut{}, api.ErrConflict},
	} {
		whole, got, e := kerf.Join(a, c.second, c.axis)
		if whole != c.whole || got != c.c || e != c.e {
			t.Errorf("Join(%v, %d) = %v, %v, %d", c.second, c.axis, whole, got, e)
		}
	}
	for bad, want := range badBoxes() {
		for _, p := range [][2]api.Box{{bad, bx(0, 0, 0, 0, 0, top+1)}, {a, bad}} {
			if whole, c, e := kerf.Join(p[0], p[1], 7); whole != (api.Box{}) || c != (kerf.Cut{}) || e != want {
				t.Errorf("Join(%v) = %v, %v, %d", p, whole, c, e)
			}
		}
	}
	for _, axis := range badAxes() {
		if whole, c, e := kerf.Join(a, a, axis); whole != (api.Box{}) || c != (kerf.Cut{}) || e != api.ErrInvalid {
			t.Errorf("Join along %d: %v, %v, %d", axis, whole, c, e)
		}
	}
}

// P23.3
func TestMostAndThickest(t *testing.T) {
	for _, c := range [][4]int{{100, 20, 5, 4}, {100, 21, 5, 4}, {100, 22, 5, 3}, {19, 20, 5, 0}, {20, 20, 1000, 1}, {1, 1, 0, 1}, {2 * top, 1, 0, 2 * top}, {2 * top, 2 * top, 1000, 1}, {1, 2 * top, 1000, 0}, {45, 20, 5, 2}, {44, 20, 5, 1}} {
		if got, e := kerf.Most(c[0], c[1], c[2]); got != c[3] || e != api.OK {
			t.Errorf("Most(%v) = %d, %d", c, got, e)
		}
	}
	for _, c := range [][4]int{{100, 4, 5, 21}, {100, 1, 5, 100}, {100, 1, 1000, 100}, {103, 4, 5, 22}, {1000, 1000, 0, 1}, {2 * top, 1000, 1000, 1001}, {19, 4, 5, 1}} {
		if got, e := kerf.Thickest(c[0], c[1], c[2]); got != c[3] || e != api.OK {
			t.Errorf("Thickest(%v) = %d, %d", c, got, e)
		}
	}
	for _, c := range [][3]int{{18, 4, 5}, {1, 2, 0}, {999, 1000, 0}, {100, 2, 1000}, {1, 1000, 1000}} {
		if got, e := kerf.Thickest(c[0], c[1], c[2]); got != 0 || e != api.ErrNone {
			t.Errorf("Thickest(%v) = %d, %d", c, got, e)
		}
	}
	for _, n := range []int{0, -1, 2*top + 1, math.MaxInt, math.MinInt} {
		for _, c := range [][3]int{{n, 20, 5}, {100, n, 5}} {
			if got, e := kerf.Most(c[0], c[1], c[2]); got != 0 || e != api.ErrRange {
				t.Errorf("Most(%v) = %d, %d", c, got, e)
			}
		}
		if got, e := kerf.Thickest(n, 4, 5); got != 0 || e != api.ErrRange {
			t.Errorf("Thickest(%d) = %d, %d", n, got, e)
		}
	}
	for _, n := range badKerfs() {
		if got, e := kerf.Most(100, 20, n); got != 0 || e != api.ErrRange {
			t.Errorf("Most with the kerf %d = %d, %d", n, got, e)
		}
		if got, e := kerf.Thickest(1, 1000, n); got != 0 || e != api.ErrRange {
			t.Errorf("Thickest with the kerf %d = %d, %d", n, got, e)
		}
	}
	for _, n := range []int{0, -1, 1001, math.MaxInt, math.MinInt} {
		if got, e := kerf.Thickest(1, n, 1000); got != 0 || e != api.ErrRange {
			t.Errorf("Thickest of %d slices = %d, %d", n, got, e)
		}
	}
}

// P23.3, P23.6: by counting.
func TestMostAgainstDefinition(t *testing.T) {
	r := rand.New(rand.NewSource(1))
	for range 5000 {
		length, thickness, width := 1+r.Intn(60), 1+r.Intn(20), r.Intn(8)
		want := 0
		for (want+1)*thickness+want*width <= length {
			want++
		}
		if got, e := kerf.Most(length, thickness, width); got != want || e != api.OK {
			t.Fatalf("Most(%d, %d, %d) = %d, %d, want %d", length, thickness, width, got, e, want)
		}
		n := 1 + r.Intn(12)
		best := 0
		for n*(best+1)+(n-1)*width <= length {
			best++
		}
		got, e := kerf.Thickest(length, n, width)
		if got != best || (e == api.OK) != (best > 0) || best == 0 && e != api.ErrNone {
			t.Fatalf("Thickest(%d, %d, %d) = %d, %d, want %d", length, n, width, got, e, best)
		}
		if best == 0 {
			continue
		}
		fit, _ := kerf.Most(length, best, width)
		thicker, _ := kerf.Most(length, best+1, width)
		if fit < n || thicker >= n {
			t.Fatalf("Thickest(%d, %d, %d) = %d: %d fit, %d thicker ones", length, n, width, best, fit, thicker)
		}
	}
}

// P23.4
func TestSlices(t *testing.T) {
	b := bx(0, 0, 0, 100, 10, 10)
	slice := func(from, to int) api.Box { return bx(from, 0, 0, to, 10, 10) }
	for _, c := range []struct {
		thickness, width int
		slices           []api.Box
		rest             api.Box
		cuts             []kerf.Cut
		e                api.Errno
	}{
		{30, 4, []api.Box{slice(0, 30), slice(34, 64), slice(68, 98)}, api.Box{}, []kerf.Cut{cut(0, 30, 4), cut(0, 64, 4)}, api.OK},
		{20, 4, []api.Box{slice(0, 20), slice(24, 44), slice(48, 68), slice(72, 92)}, slice(96, 100), []kerf.Cut{cut(0, 20, 4), cut(0, 44, 4), cut(0, 68, 4), cut(0, 92, 4)}, api.OK},
		{50, 0, []api.Box{slice(0, 50), slice(50, 100)}, api.Box{}, []kerf.Cut{cut(0, 50, 0)}, api.OK},
		{60, 0, []api.Box{slice(0, 60)}, slice(60, 100), []kerf.Cut{cut(0, 60, 0)}, api.OK},
		{60, 39, []api.Box{slice(0, 60)}, slice(99, 100), []kerf.Cut{cut(0, 60, 39)}, api.OK},
		{60, 40, []api.Box{slice(0, 60)}, api.Box{}, nil, api.OK},
		{60, 1000, []api.Box{slice(0, 60)}, api.Box{}, nil, api.OK},
		{100, 4, []api.Box{slice(0, 100)}, api.Box{}, nil, api.OK},
		{101, 4, nil, api.Box{}, nil, api.ErrNone},
		{2 * top, 1000, nil, api.Box{}, nil, api.ErrNone},
	} {
		got, rest, e := kerf.Slices(b, 0, c.thickness, c.width)
		if !slices.Equal(got, c.slices) || rest != c.rest || e != c.e {
			t.Errorf("Slices(%d, %d) = %v, %v, %d", c.thickness, c.width, got, rest, e)
		}
		cuts, e := kerf.Cuts(b, 0, c.thickness, c.width)
		if !slices.Equal(cuts, c.cuts) || e != c.e {
			t.Errorf("Cuts(%d, %d) = %v, %d", c.thickness, c.width, cuts, e)
		}
	}
}

// P1, P23.4
func TestSlicesErrors(t *testing.T) {
	refuse := func(b api.Box, axis, thickness, width int, want api.Errno) {
		t.Helper()
		got, rest, e := kerf.Slices(b, axis, thickness, width)
		cuts, f := kerf.Cuts(b, axis, thickness, width)
		if got != nil || rest != (api.Box{}) || cuts != nil || e != want || f != want {
			t.Errorf("Slices(%v, %d, %d, %d) = %v, %v, %v, %d, %d, want %d", b, axis, thickness, width, got, rest, cuts, e, f, want)
		}
	}
	b := bx(0, 0, 0, 10, 10, 2001)
	for bad, e := range badBoxes() {
		refuse(bad, 7, 0, -1, e)
	}
	for _, axis := range badAxes() {
		refuse(b, axis, 0, -1, api.ErrInvalid)
	}
	for _, n := range []int{0, -1, 2*top + 1, math.MaxInt, math.MinInt} {
		refuse(b, 0, n, -1, api.ErrRange)
	}
	for _, n := range badKerfs() {
		refuse(b, 0, 11, n, api.ErrRange)
	}
	refuse(b, 0, 11, 0, api.ErrNone)
	refuse(b, 1, 11, 1000, api.ErrNone)
	refuse(b, 2, 1, 0, api.ErrTooMany)
	refuse(b, 2, 1, 1, api.ErrTooMany)
	refuse(everything(), 0, 1, 1000, api.ErrTooMany)
	b.Max.Z = 2000
	if got, rest, e := kerf.Slices(b, 2, 1, 1); len(got) != 1000 || rest != (api.Box{}) || e != api.OK {
		t.Errorf("1000 slices: %d, %v, %d", len(got), rest, e)
	}
	if cuts, e := kerf.Cuts(b, 2, 1, 1); len(cuts) != 999 || e != api.OK {
		t.Errorf("1000 slices: %d cuts, %d", len(cuts), e)
	}
}

func randomBox(r *rand.Rand) api.Box {
	x, y, z := r.Intn(40)-20, r.Intn(40)-20, r.Intn(40)-20
	return bx(x, y, z, x+1+r.Intn(40), y+1+r.Intn(40), z+1+r.Intn(40))
}

func along(b api.Box, axis int) (int, int) {
	switch axis {
	case 0:
		return b.Min.X, b.Max.X
	case 1:
		return b.Min.Y, b.Max.Y
	}
	return b.Min.Z, b.Max.Z
}

// P23.1, P23.2, P23.4, P23.6
func TestSplittingAtCuts(t *testing.T) {
	r := rand.New(rand.NewSource(2))
	for range 3000 {
		b, axis, thickness, width := randomBox(r), r.Intn(3), 1+r.Intn(15), r.Intn(6)
		cuts, e := kerf.Cuts(b, axis, thickness, width)
		list, rest, f := kerf.Slices(b, axis, thickness, width)
		lo, hi := along(b, axis)
		most, _ := kerf.Most(hi-lo, thickness, width)
		if e != f || (e == api.OK) != (most > 0) || len(list) != most {
			t.Fatalf("%v, %d, %d, %d: %v, %d, %v, %d, but %d fit", b, axis, thickness, width, cuts, e, list, f, most)
		}
		if e != api.OK {
			continue
		}
		left := b
		var parts []api.Box
		for _, c := range cuts {
			first, lost, second, e := kerf.Split(left, c)
			whole, back, f := kerf.Join(first, second, axis)
			loss, _ := kerf.Loss(left, c)
			if e != api.OK || f != api.OK || whole != left || back != c || volume(lost) != loss || volume(first)+volume(lost)+volume(second) != volume(left) {
				t.Fatalf("the cut %v of %v: %v, %v, %v, %d", c, left, first, lost, second, e)
			}
			parts, left = append(parts, first), second
		}
		if rest != (api.Box{}) {
			parts = append(parts, left)
			list = append(list, rest)
		} else {
			// What is at most a kerf behind the last slice is ground off.
			from, to := along(left, axis)
			if to-from < thickness || to-from > thickness+width {
				t.Fatalf("%v, %d, %d, %d leaves %v", b, axis, thickness, width, left)
			}
			last := list[len(list)-1]
			if last.Min != left.Min {
				t.Fatalf("%v, %d, %d, %d: the last slice is %v in %v", b, axis, thickness, width, last, left)
			}
			parts = append(parts, last)
		}
		if !slices.Equal(parts, list) {
			t.Fatalf("%v, %d, %d, %d: the cuts leave %v, the slices are %v", b, axis, thickness, width, parts, list)
		}
	}
}

// P23.5
func TestTrim(t *testing.T) {
	b := bx(0, 0, 0, 100, 10, 10)
	for _, c := range []struct {
		piece api.Box
		width int
		cuts  []kerf.Cut
		lost  int64
	}{
		{bx(10, 0, 0, 90, 10, 8), 4, []kerf.Cut{cut(0, 6, 4), cut(0, 90, 4)}, 2400},
		{b, 4, nil, 0},
		{bx(4, 0, 0, 96, 10, 10), 4, nil, 800},
		{bx(5, 0, 0, 95, 10, 10), 4, []kerf.Cut{cut(0, 1, 4), cut(0, 95, 4)}, 800},
		{bx(1, 1, 1, 99, 9, 9), 0, []kerf.Cut{cut(0, 1, 0), cut(0, 99, 0), cut(1, 1, 0), cut(1, 9, 0), cut(2, 1, 0), cut(2, 9, 0)}, 0},
		{bx(50, 5, 5, 51, 6, 6), 1000, nil, 9999},
		{bx(50, 5, 5, 51, 6, 6), 1, []kerf.Cut{cut(0, 49, 1), cut(0, 51, 1), cut(1, 4, 1), cut(1, 6, 1), cut(2, 4, 1), cut(2, 6, 1)}, 200 + 20 + 2},
		{bx(0, 3, 2, 100, 10, 10), 2, []kerf.Cut{cut(1, 1, 2)}, 2000 + 1400},
	} {
		if cuts, lost, e := kerf.Trim(b, c.piece, c.width); !slices.Equal(cuts, c.cuts) || lost != c.lost || e != api.OK {
			t.Errorf("Trim(%v, %d) = %v, %d, %d", c.piece, c.width, cuts, lost, e)
		}
	}
	if cuts, lost, e := kerf.Trim(everything(), bx(0, 0, 0, 1, 1, 1), 1000); len(cuts) != 6 || lost != 2000*4*top*top+2000*2*top+2000 || e != api.OK {
		t.Errorf("Trim of everything: %v, %d, %d", cuts, lost, e)
	}
}

// P1, P23.5
func TestTrimErrors(t *testing.T) {
	refuse := func(b, piece api.Box, width int, want api.Errno) {
		t.Helper()
		if cuts, lost, e := kerf.Trim(b, piece, width); cuts != nil || lost != 0 || e != want {
			t.Errorf("Trim(%v, %v, %d) = %v, %d, %d, want %d", b, piece, width, cuts, lost, e, want)
		}
	}
	b := bx(0, 0, 0, 10, 10, 10)
	for bad, e := range badBoxes() {
		refuse(bad, bx(0, 0, 0, 0, 0, top+1), -1, e)
		refuse(b, bad, -1, e)
	}
	for _, n := range badKerfs() {
		refuse(b, bx(0, 0, 0, 11, 1, 1), n, api.ErrRange)
	}
	for _, piece := range []api.Box{bx(0, 0, 0, 11, 1, 1), bx(-1, 0, 0, 1, 1, 1), bx(0, 0, -1, 1, 1, 1), bx(0, 0, 0, 1, 11, 1), bx(20, 20, 20, 30, 30, 30)} {
		refuse(b, piece, 4, api.ErrOutside)
	}
}

// P23.5, P23.6: by splitting the box at the cuts.
func TestTrimAgainstSplit(t *testing.T) {
	r := rand.New(rand.NewSource(3))
	for range 3000 {
		b, width := randomBox(r), r.Intn(8)
		piece := b
		for _, p := range []struct{ lo, hi *int }{{&piece.Min.X, &piece.Max.X}, {&piece.Min.Y, &piece.Max.Y}, {&piece.Min.Z, &piece.Max.Z}} {
			lo := *p.lo + r.Intn(*p.hi-*p.lo)
			*p.lo, *p.hi = lo, lo+1+r.Intn(*p.hi-lo)
		}
		cuts, lost, e := kerf.Trim(b, piece, width)
		if e != api.OK {
			t.Fatal(e)
		}
		var trimmed, grounds, kerfs int64
		left := b
		for axis := range 3 {
			lo, _ := along(piece, axis)
			if from, _ := along(left, axis); lo-from > width {
				first, k, second, e := kerf.Split(left, cuts[0])
				if cuts[0] != cut(axis, lo-width, width) || e != api.OK {
					t.Fatalf("Trim(%v, %v, %d) = %v", b, piece, width, cuts)
				}
				trimmed, kerfs, left, cuts = trimmed+volume(first), kerfs+volume(k), second, cuts[1:]
			} else {
				before := volume(left)
				*[]*int{&left.Min.X, &left.Min.Y, &left.Min.Z}[axis] = lo
				grounds += before - volume(left)
			}
			_, hi := along(piece, axis)
			if _, to := along(left, axis); to-hi > width {
				first, k, second, e := kerf.Split(left, cuts[0])
				if cuts[0] != cut(axis, hi, width) || e != api.OK {
					t.Fatalf("Trim(%v, %v, %d) = %v", b, piece, width, cuts)
				}
				trimmed, kerfs, left, cuts = trimmed+volume(second), kerfs+volume(k), first, cuts[1:]
			} else {
				before := volume(left)
				*[]*int{&left.Max.X, &left.Max.Y, &left.Max.Z}[axis] = hi
				grounds += before - volume(left)
			}
		}
		if left != piece || len(cuts) != 0 || lost != kerfs+grounds || trimmed+lost+volume(piece) != volume(b) {
			t.Fatalf("Trim(%v, %v, %d): %v are left, %d lost, want %d", b, piece, width, cuts, lost, kerfs+grounds)
		}
	}
}
