package colour_test

import (
	"math"
	"math/rand"
	"slices"
	"testing"

	"gangsaw/api"
	"gangsaw/colour"
)

// P35.1 to P35.3: the examples.
func TestExamples(t *testing.T) {
	if n, e := colour.Mismatch([]int{1, 5, 9}, []int{2, 5, 6}); n != 4 || e != api.OK {
		t.Errorf("Mismatch = %d, %d", n, e)
	}
	if c, e := colour.Mirror([]int{1, 5, 9}); !slices.Equal(c, []int{9, 5, 1}) || e != api.OK {
		t.Errorf("Mirror = %v, %d", c, e)
	}
	a, b := []int{1, 5, 9}, []int{5, 9, 1}
	for by, want := range map[int]int{1: 0, 0: 5333, -1: 6000, 2: 4000, -2: 0} {
		if n, e := colour.Offset(a, b, by); n != want || e != api.OK {
			t.Errorf("Offset by %d = %d, %d", by, n, e)
		}
	}
	if d, n, e := colour.Align(a, b, 2); d != 1 || n != 0 || e != api.OK {
		t.Errorf("Align = %d, %d, %d", d, n, e)
	}
	if d, n, e := colour.Align(a, b, 0); d != 0 || n != 5333 || e != api.OK {
		t.Errorf("Align = %d, %d, %d", d, n, e)
	}
}

// P35.3: ties go by the distance, then to the positive number.
func TestAlign(t *testing.T) {
	for i, c := range []struct {
		a, b    []int
		most    int
		d, mean int
	}{
		{[]int{4, 4, 4}, []int{4, 4, 4}, 2, 0, 0},
		{[]int{1, 2, 1, 2}, []int{2, 1, 2, 1}, 3, 1, 0},
		{[]int{0, 9, 5}, []int{5, 9, 9}, 2, 2, 0},
		{[]int{5, 9, 9}, []int{0, 9, 5}, 2, -2, 0},
		{[]int{5, 9, 9}, []int{0, 9, 5}, 1, 0, 3000},
		{[]int{7}, []int{3}, 0, 0, 4000},
	} {
		if d, mean, e := colour.Align(c.a, c.b, c.most); d != c.d || mean != c.mean || e != api.OK {
			t.Errorf("Align %d = %d, %d, %d", i, d, mean, e)
		}
	}
}

// P35.1: means that lie in the middle are rounded up.
func TestSmooth(t *testing.T) {
	for i, c := range []struct{ code, want []int }{
		{[]int{0, 10, 1}, []int{5, 4, 6}}, {[]int{7}, []int{7}}, {[]int{0, 1}, []int{1, 1}}, {[]int{1000, 1000, 999}, []int{1000, 1000, 1000}},
		{[]int{0, 0, 1, 0, 0}, []int{0, 0, 0, 0, 0}}, {[]int{0, 1, 1, 0}, []int{1, 1, 1, 1}}, {[]int{9, 0, 3, 5}, []int{5, 4, 3, 4}},
	} {
		if got, e := colour.Smooth(c.code); !slices.Equal(got, c.want) || e != api.OK {
			t.Errorf("Smooth %d = %v, %d", i, got, e)
		}
	}
}

// P35.4
func TestFaces(t *testing.T) {
	s := api.Slab{Front: []int{1, 2, 3}, Back: []int{4, 5, 7}}
	front, e := colour.Face(s, false)
	back, f := colour.Face(s, true)
	if !slices.Equal(front, []int{1, 2, 3}) || !slices.Equal(back, []int{7, 5, 4}) || e != api.OK || f != api.OK {
		t.Errorf("Face = %v, %v, %d, %d", front, back, e, f)
	}
	front[0], back[0] = 9, 9
	if s.Front[0] != 1 || s.Back[2] != 7 {
		t.Error("Face shares memory with its argument")
	}
	other := api.Slab{Front: []int{0, 0, 0}, Back: []int{3, 2, 1}}
	for i, c := range []struct {
		ta, tb bool
		want   int
	}{{false, false, 6}, {false, true, 0}, {true, false, 16}, {true, true, 10}} {
		if n, e := colour.Between(s, c.ta, other, c.tb); n != c.want || e != api.OK {
			t.Errorf("Between %d = %d, %d", i, n, e)
		}
	}
	// A face that is not used may have any code.
	if _, e := colour.Face(api.Slab{Front: []int{1}}, false); e != api.OK {
		t.Errorf("Face = %d", e)
	}
	if n, e := colour.Between(api.Slab{Back: []int{1}}, true, api.Slab{Front: []int{3}, Back: []int{-1}}, false); n != 2 || e != api.OK {
		t.Errorf("Between = %d, %d", n, e)
	}
}

// P35.4
func TestNearest(t *testing.T) {
	slabs := []api.Slab{{Colour: 1, Front: []int{1, 1}}, {Colour: 2, Front: []int{5, 9}}, {Colour: 2, Front: []int{9, 5}}, {Colour: 2, Front: []int{5, 8}}, {Colour: 2, Front: []int{6, 8}}, {Colour: 3, Front: []int{-1}}}
	if i, e := colour.Nearest([]int{5, 7}, 2, slabs); i != 3 || e != api.OK {
		t.Errorf("Nearest = %d, %d", i, e)
	}
	if i, e := colour.Nearest([]int{6, 9}, 2, slabs); i != 1 || e != api.OK {
		t.Errorf("Nearest = %d, %d", i, e)
	}
	for i, c := range []struct {
		code   []int
		colour int
		slabs  []api.Slab
		e      api.Errno
	}{
		{nil, 9, make([]api.Slab, 257), api.ErrTooMany}, {nil, 9, make([]api.Slab, 256), api.ErrInvalid}, {[]int{-1}, 9, nil, api.ErrRange}, {[]int{1}, 9, nil, api.ErrNone}, {[]int{1}, 9, slabs, api.ErrNone},
		{[]int{1}, 0, make([]api.Slab, 256), api.ErrInvalid}, {[]int{1, 2}, 3, slabs, api.ErrRange}, {[]int{1}, 2, slabs, api.ErrInvalid},
		{[]int{1}, 1, []api.Slab{{Colour: 1, Front: []int{1, 2}}, {Colour: 1, Front: []int{1001}}}, api.ErrRange},
		{[]int{1}, 1, []api.Slab{{Colour: 1, Front: []int{1001}}, {Colour: 1}}, api.ErrRange},
	} {
		if got, e := colour.Nearest(c.code, c.colour, c.slabs); got != 0 || e != c.e {
			t.Errorf("Nearest %d = %d, %d, want %d", i, got, e, c.e)
		}
	}
}

// P35.1, P35.2, P1: each error, and which one comes first.
func TestErrors(t *testing.T) {
	long := make([]int, colour.MaxCode+1)
	type refusal struct {
		code []int
		e    api.Errno
	}
	list := []refusal{{nil, api.ErrInvalid}, {[]int{}, api.ErrInvalid}, {long, api.ErrInvalid}, {append([]int{-1}, long...), api.ErrInvalid}}
	for _, n := range []int{-1, 1001, math.MaxInt, math.MinInt} {
		list = append(list, refusal{[]int{0, n}, api.ErrRange})
	}
	for i, c := range list {
		other := []int{1, 2, 3}
		mirror, e1 := colour.Mirror(c.code)
		smooth, e2 := colour.Smooth(c.code)
		_, e3 := colour.Mismatch(c.code, nil)
		_, e4 := colour.Mismatch(other, c.code)
		_, e5 := colour.Offset(c.code, []int{-5}, 9)
		_, e6 := colour.Offset(other, c.code, 9)
		_, _, e7 := colour.Align(c.code, nil, -1)
		_, _, e8 := colour.Align(other, c.code, -1)
		_, e9 := colour.Face(api.Slab{Front: c.code, Back: other}, false)
		_, e10 := colour.Face(api.Slab{Front: other, Back: c.code}, true)
		_, e11 := colour.Between(api.Slab{Front: c.code, Back: other}, false, api.Slab{}, false)
		_, e12 := colour.Between(api.Slab{Front: other}, false, api.Slab{Back: c.code}, true)
		for k, e := range []api.Errno{colour.Check(c.code), e1, e2, e3, e4, e5, e6, e7, e8, e9, e10, e11, e12} {
			if want := c.e; e != want {
				t.Errorf("refusal %d, function %d: %d, want %d", i, k, e, want)
			}
		}
		if mirror != nil || smooth != nil {
			t.Errorf("refusal %d has results", i)
		}
	}
	a, b := []int{1, 2, 3}, []int{1, 2}
	_, e1 := colour.Mismatch(a, b)
	_, e2 := colour.Offset(a, b, 9)
	_, _, e3 := colour.Align(a, b, -1)
	_, e4 := colour.Between(api.Slab{Front: a}, false, api.Slab{Front: b}, false)
	if e1 != api.ErrInvalid || e2 != api.ErrInvalid || e3 != api.ErrInvalid || e4 != api.ErrInvalid {
		t.Errorf("%d, %d, %d, %d", e1, e2, e3, e4)
	}
	for _, n := range []int{3, -3, math.MaxInt, math.MinInt} {
		if n, e := colour.Offset(a, a, n); n != 0 || e != api.ErrRange {
			t.Errorf("Offset = %d, %d", n, e)
		}
	}
	for _, n := range []int{3, -1, math.MaxInt, math.MinInt} {
		if d, n, e := colour.Align(a, a, n); d != 0 || n != 0 || e != api.ErrRange {
			t.Errorf("Align = %d, %d, %d", d, n, e)
		}
	}
	if e := colour.Check(append(make([]int, 63), 1000)); e != api.OK {
		t.Errorf("Check = %d", e)
	}
}

func random(r *rand.Rand, n int) []int {
	var code []int
	for range n {
		code = append(code, r.Intn(8))
	}
	return code
}

// P35.2, P35.3, P35.5
func TestProperties(t *testing.T) {
	r := rand.New(rand.NewSource(1))
	for range 2000 {
		n := 1 + r.Intn(6)
		a, b, c := random(r, n), random(r, n), random(r, n)
		ab, _ := colour.Mismatch(a, b)
		ba, _ := colour.Mismatch(b, a)
		ac, _ := colour.Mismatch(a, c)
		cb, _ := colour.Mismatch(c, b)
		ma, _ := colour.Mirror(a)
		mb, _ := colour.Mirror(b)
		mm, _ := colour.Mismatch(ma, mb)
		again, _ := colour.Mirror(ma)
		at, _ := colour.Offset(a, b, 0)
		if ab != ba || (ab == 0) != slices.Equal(a, b) || ab > ac+cb || mm != ab || !slices.Equal(again, a) || at != 1000*ab/n {
			t.Fatalf("%v, %v, %v: %d, %d, %d, %d, %d, %d", a, b, c, ab, ba, ac, cb, mm, at)
		}
		smooth, _ := colour.Smooth(a)
		if slices.Min(smooth) < slices.Min(a) || slices.Max(smooth) > slices.Max(a) {
			t.Fatalf("Smooth(%v) = %v", a, smooth)
		}
		checkAlign(t, a, b, r.Intn(n))
	}
}

func checkAlign(t *testing.T, a, b []int, most int) {
	best, least := 0, math.MaxInt
	for by := -most; by <= most; by++ {
		sum, count := 0, 0
		for i := range b {
			if k := i + by; k >= 0 && k < len(a) {
				sum += max(a[k]-b[i], b[i]-a[k])
				count++
			}
		}
		mean := 1000 * sum / count
		if got, e := colour.Offset(a, b, by); got != mean || e != api.OK {
			t.Fatalf("Offset(%v, %v, %d) = %d, %d", a, b, by, got, e)
		}
		far, best0 := max(by, -by), max(best, -best)
		if mean < least || mean == least && (far < best0 || far == best0 && by > best) {
			best, least = by, mean
		}
	}
	if d, n, e := colour.Align(a, b, most); d != best || n != least || e != api.OK {
		t.Fatalf("Align(%v, %v, %d) = %d, %d, %d, want %d, %d", a, b, most, d, n, e, best, least)
	}
}
