package anchor_test

import (
	"math"
	"math/rand"
	"slices"
	"testing"

	"gangsaw/anchor"
	"gangsaw/api"
	"gangsaw/box"
)

const top = api.MaxCoord

func v(x, y, z int) api.Vec { return api.Vec{X: x, Y: y, Z: z} }

func an(face, x, y, edge int) api.Anchor {
	return api.Anchor{Face: face, At: api.Point{X: x, Y: y}, Edge: edge}
}

// stone and rule are those of the chapter's examples.
func stone() api.Vec { return v(600, 200, 300) }

func rule() anchor.Rule { return anchor.Rule{Edge: 50, Space: 200, Bears: 10000} }

// P44.1 to P44.4: the examples.
func TestExamples(t *testing.T) {
	for face, want := range [][2]int{{200, 300}, {200, 300}, {600, 300}, {600, 300}, {600, 200}, {600, 200}} {
		if w, h, e := anchor.Face(stone(), face); w != want[0] || h != want[1] || e != api.OK {
			t.Errorf("Face(%d) = %d, %d, %d", face, w, h, e)
		}
	}
	row, e := anchor.Row(stone(), 2, 3, rule())
	if !slices.Equal(row, []api.Anchor{an(2, 50, 150, 50), an(2, 300, 150, 50), an(2, 550, 150, 50)}) || e != api.OK {
		t.Errorf("Row = %v, %d", row, e)
	}
	for face, want := range []int{1, 1, 3, 3, 3, 3} {
		if n, e := anchor.Most(stone(), face, rule()); n != want || e != api.OK {
			t.Errorf("Most(%d) = %d, %d", face, n, e)
		}
	}
	if row, e := anchor.Row(stone(), 2, 4, rule()); row != nil || e != api.ErrNone {
		t.Errorf("Row = %v, %d", row, e)
	}
	if row, e := anchor.Row(stone(), 0, 1, rule()); !slices.Equal(row, []api.Anchor{an(0, 100, 150, 50)}) || e != api.OK {
		t.Errorf("Row = %v, %d", row, e)
	}
	if n, e := anchor.Needed(25000, rule()); n != 3 || e != api.OK {
		t.Errorf("Needed = %d, %d", n, e)
	}
	list := []api.Anchor{an(2, 50, 150, 0), an(1, 150, 150, 0)}
	if i, k, e := anchor.Clash(stone(), list, 10, 100); i != 0 || k != 1 || e != api.OK {
		t.Errorf("Clash = %d, %d, %d", i, k, e)
	}
	if i, k, e := anchor.Clash(stone(), list, 10, 40); i != 0 || k != 0 || e != api.ErrNone {
		t.Errorf("Clash = %d, %d, %d", i, k, e)
	}
}

// P44.1: distances at the limits.
func TestCheck(t *testing.T) {
	for i, c := range []struct {
		list []api.Anchor
		e    api.Errno
	}{
		{nil, api.OK}, {[]api.Anchor{an(2, 50, 50, 0), an(2, 550, 250, 50)}, api.OK}, {[]api.Anchor{an(2, 49, 50, 0)}, api.ErrRange}, {[]api.Anchor{an(2, 50, 49, 0)}, api.ErrRange}, {[]api.Anchor{an(2, 551, 50, 0)}, api.ErrRange}, {[]api.Anchor{an(2, 50, 251, 0)}, api.ErrRange},
		{[]api.Anchor{an(2, 60, 60, 60)}, api.OK}, {[]api.Anchor{an(2, 59, 60, 60)}, api.ErrRange}, {[]api.Anchor{an(2, 60, 241, 60)}, api.ErrRange},
		{[]api.Anchor{an(2, 50, 50, 0), an(3, 50, 50, 0)}, api.OK}, {[]api.Anchor{an(2, 50, 50, 0), an(2, 250, 50, 0)}, api.OK}, {[]api.Anchor{an(2, 50, 50, 0), an(2, 249, 50, 0)}, api.ErrConflict}, {[]api.Anchor{an(2, 50, 50, 0), an(2, 210, 170, 0)}, api.OK}, {[]api.Anchor{an(2, 50, 50, 0), an(4, 50, 50, 0), an(2, 210, 169, 0)}, api.ErrConflict},
		{[]api.Anchor{an(2, 50, 50, 0), an(2, 50, 50, 0), an(2, 1, 1, 0)}, api.ErrRange},
	} {
		if e := anchor.Check(stone(), c.list, rule()); e != c.e {
			t.Errorf("Check %d = %d, want %d", i, e, c.e)
		}
	}
}

// P44.1 to P44.4, P1: each error, and which one comes first.
func TestErrors(t *testing.T) {
	bad := anchor.Rule{Edge: -1}
	many := make([]api.Anchor, anchor.MaxAnchors+1)
	for _, n := range []int{0, -1, top + 1, math.MaxInt, math.MinInt} {
		for _, s := range []api.Vec{v(n, 1, 1), v(1, n, 1), v(1, 1, n)} {
			w, h, e1 := anchor.Face(s, -1)
			most, e2 := anchor.Most(s, -1, bad)
			row, e3 := anchor.Row(s, -1, 0, bad)
			i, k, e4 := anchor.Clash(s, many, 0, 0)
			mirrored, e5 := anchor.Mirror(s, many)
			for f, e := range []api.Errno{anchor.Check(s, many, bad), e1, e2, e3, e4, e5} {
				if e != api.ErrInvalid {
					t.Errorf("size %v, function %d: %d", s, f, e)
				}
			}
			if w+h+most+i+k+len(row)+len(mirrored) != 0 {
				t.Errorf("size %v has results", s)
			}
		}
	}
	for _, n := range []int{-1, 6, math.MaxInt, math.MinInt} {
		_, _, e1 := anchor.Face(stone(), n)
		_, e2 := anchor.Most(stone(), n, rule())
		_, e3 := anchor.Row(stone(), n, 1, rule())
		list := []api.Anchor{an(0, -1, -1, 0), an(n, 1, 1, 0)}
		_, _, e4 := anchor.Clash(stone(), list, 1, 1)
		_, e5 := anchor.Mirror(stone(), list)
		for f, e := range []api.Errno{anchor.Check(stone(), list, rule()), e1, e2, e3, e4, e5} {
			if e != api.ErrInvalid {
				t.Errorf("face %d, function %d: %d", n, f, e)
			}
		}
	}
	for i, r := range []anchor.Rule{{-1, 1, 1}, {10001, 1, 1}, {math.MinInt, 1, 1}, {0, 0, 1}, {0, 10001, 1}, {0, math.MaxInt, 1}, {0, 1, 0}, {0, 1, 1000000000001}, {0, 1, math.MinInt64}, {0, 1, math.MaxInt64}} {
		_, e1 := anchor.Needed(-1, r)
		_, e2 := anchor.Most(stone(), 0, r)
		_, e3 := anchor.Row(stone(), 0, 0, r)
		if e := anchor.Check(stone(), many, r); e != api.ErrInvalid || e1 != api.ErrInvalid || e2 != api.ErrInvalid || e3 != api.ErrInvalid {
			t.Errorf("rule %d: %d, %d, %d, %d", i, e, e1, e2, e3)
		}
	}
	if e := anchor.Check(stone(), nil, anchor.Rule{Edge: 10000, Space: 10000, Bears: 1000000000000}); e != api.OK {
		t.Errorf("Check = %d", e)
	}
	for i, c := range []struct {
		list []api.Anchor
		e    api.Errno
	}{
		{many, api.ErrTooMany}, {[]api.Anchor{an(2, -1, 0, 0), an(2, 0, 0, -1)}, api.ErrInvalid}, {[]api.Anchor{an(2, -1, 0, 0), an(2, 0, 0, 10001)}, api.ErrInvalid}, {[]api.Anchor{an(2, 0, 0, 0), an(2, -1, 0, 0)}, api.ErrOutside}, {[]api.Anchor{an(2, 601, 0, 0)}, api.ErrOutside}, {[]api.Anchor{an(2, 0, 301, 0)}, api.ErrOutside}, {[]api.Anchor{an(0, 201, 0, 0)}, api.ErrOutside}, {[]api.Anchor{an(5, 0, 201, 0)}, api.ErrOutside}, {[]api.Anchor{an(5, 0, math.MinInt, 0)}, api.ErrOutside},
	} {
		i1, k, e1 := anchor.Clash(stone(), c.list, 0, 0)
		mirrored, e2 := anchor.Mirror(stone(), c.list)
		if e := anchor.Check(stone(), c.list, rule()); e != c.e || e1 != c.e || e2 != c.e || i1+k != 0 || mirrored != nil {
			t.Errorf("list %d: %d, %d, %d", i, e, e1, e2)
		}
	}
	for _, n := range []int{0, -1, 10001, math.MaxInt, math.MinInt} {
		_, _, e1 := anchor.Clash(stone(), nil, n, 1)
		_, _, e2 := anchor.Clash(stone(), nil, 1, n)
		if e1 != api.ErrInvalid || e2 != api.ErrInvalid {
			t.Errorf("Clash with %d: %d, %d", n, e1, e2)
		}
	}
	for _, n := range []int{0, -1, 17, math.MaxInt, math.MinInt} {
		if row, e := anchor.Row(stone(), 0, n, rule()); row != nil || e != api.ErrInvalid {
			t.Errorf("Row of %d = %v, %d", n, row, e)
		}
	}
}

// P44.2, P1
func TestNeeded(t *testing.T) {
	for mass, want := range map[int64]int{0: 0, 1: 1, 10000: 1, 10001: 2, 160000: 16} {
		if n, e := anchor.Needed(mass, rule()); n != want || e != api.OK {
			t.Errorf("Needed(%d) = %d, %d", mass, n, e)
		}
	}
	for mass, want := range map[int64]api.Errno{-1: api.ErrRange, 160001: api.ErrTooMany, 1000000000000000: api.ErrTooMany, 1000000000000001: api.ErrRange, math.MaxInt64: api.ErrRange, math.MinInt64: api.ErrRange} {
		if n, e := anchor.Needed(mass, rule()); n != 0 || e != want {
			t.Errorf("Needed(%d) = %d, %d", mass, n, e)
		}
	}
	if n, e := anchor.Most(v(99, 99, 99), 0, rule()); n != 0 || e != api.OK {
		t.Errorf("Most = %d, %d", n, e)
	}
	if n, e := anchor.Most(v(100, 100, 100), 0, rule()); n != 1 || e != api.OK {
		t.Errorf("Most = %d, %d", n, e)
	}
	if n, e := anchor.Most(v(top, top, top), 5, rule()); n != 16 || e != api.OK {
		t.Errorf("Most = %d, %d", n, e)
	}
	if row, e := anchor.Row(v(110, 101, 9), 5, 4, anchor.Rule{Edge: 3, Space: 1, Bears: 1}); !slices.Equal(row, []api.Anchor{an(5, 3, 50, 3), an(5, 37, 50, 3), an(5, 72, 50, 3), an(5, 107, 50, 3)}) || e != api.OK {
		t.Errorf("Row = %v, %d", row, e)
	}
}

// hole is the box of a hole, by its definition.
func hole(size api.Vec, a api.Anchor, radius, depth int) api.Box {
	x, y := a.At.X, a.At.Y
	var b api.Box
	switch a.Face {
	case api.PlusX:
		b = api.Box{Min: v(size.X-depth, x-radius, y-radius), Max: v(size.X, x+radius, y+radius)}
	case api.MinusX:
		b = api.Box{Min: v(0, x-radius, y-radius), Max: v(depth, x+radius, y+radius)}
	case api.PlusY:
		b = api.Box{Min: v(x-radius, size.Y-depth, y-radius), Max: v(x+radius, size.Y, y+radius)}
	case api.MinusY:
		b = api.Box{Min: v(x-radius, 0, y-radius), Max: v(x+radius, depth, y+radius)}
	case api.PlusZ:
		b = api.Box{Min: v(x-radius, y-radius, size.Z-depth), Max: v(x+radius, y+radius, size.Z)}
	default:
		b = api.Box{Min: v(x-radius, y-radius, 0), Max: v(x+radius, y+radius, depth)}
	}
	in, _ := box.Intersect(b, api.Box{Max: size})
	return in
}

// P44.4, P44.5
func TestProperties(t *testing.T) {
	r := rand.New(rand.NewSource(1))
	clashes := 0
	for range 5000 {
		size := v(1+r.Intn(30), 1+r.Intn(30), 1+r.Intn(30))
		x := anchor.Rule{Edge: r.Intn(6), Space: 1 + r.Intn(9), Bears: 5}
		var list []api.Anchor
		for range r.Intn(5) {
			face := r.Intn(6)
			w, h, _ := anchor.Face(size, face)
			list = append(list, an(face, r.Intn(w+1), r.Intn(h+1), r.Intn(4)))
		}
		mirrored, e := anchor.Mirror(size, list)
		again, _ := anchor.Mirror(size, mirrored)
		if e != api.OK || !slices.Equal(again, list) || anchor.Check(size, mirrored, x) != anchor.Check(size, list, x) {
			t.Fatalf("Mirror(%v, %v) = %v, %d", size, list, mirrored, e)
		}
		radius, depth := 1+r.Intn(6), 1+r.Intn(12)
		wantI, wantK, found := 0, 0, false
		for i := range list {
			for k := i + 1; k < len(list); k++ {
				if !found && box.Overlap(hole(size, list[i], radius, depth), hole(size, list[k], radius, depth)) {
					wantI, wantK, found = i, k, true
				}
			}
			m, w := hole(size, mirrored[i], radius, depth), hole(size, list[i], radius, depth)
			if m.Min.X != size.X-w.Max.X || m.Max.X != size.X-w.Min.X || m.Min.Y != w.Min.Y || m.Max.Z != w.Max.Z {
				t.Fatalf("Mirror(%v, %v) = %v", size, list, mirrored)
			}
		}
		i, k, e := anchor.Clash(size, list, radius, depth)
		if i != wantI || k != wantK || found != (e == api.OK) || !found && e != api.ErrNone {
			t.Fatalf("Clash(%v, %v, %d, %d) = %d, %d, %d", size, list, radius, depth, i, k, e)
		}
		if found {
			clashes++
		}
		checkRows(t, size, r.Intn(6), x)
	}
	if clashes < 100 {
		t.Errorf("only %d clashes", clashes)
	}
}

func checkRows(t *testing.T, size api.Vec, face int, x anchor.Rule) {
	most, _ := anchor.Most(size, face, x)
	for n := 1; n <= anchor.MaxAnchors; n++ {
		row, e := anchor.Row(size, face, n, x)
		if (n <= most) != (e == api.OK) || e == api.OK && (len(row) != n || anchor.Check(size, row, x) != api.OK) {
			t.Fatalf("Row(%v, %d, %d, %v) = %v, %d; Most is %d", size, face, n, x, row, e, most)
		}
	}
}
