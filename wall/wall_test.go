package wall_test

import (
	"math"
	"math/rand"
	"reflect"
	"slices"
	"strconv"
	"strings"
	"testing"

	"gangsaw/api"
	"gangsaw/wall"
)

const top = api.MaxCoord

// stone of the course k, 20 high with joints of 10 below.
func stone(name string, k, x, length int) api.Stone {
	return api.Stone{Name: name, Course: k, At: api.Vec{X: x, Y: -7, Z: 5 + 30*k}, Size: api.Vec{X: length, Z: 20}}
}

// example has three courses; the names are not in the order of the places.
func example() api.Wall {
	return api.Wall{Name: "w", Length: 100, Lap: 10, Joint: api.Interval{Lo: 5, Hi: 10}, Stones: []api.Stone{
		stone("a", 0, 40, 60), stone("b", 0, 0, 30), stone("c", 1, 0, 55), stone("d", 1, 65, 35), stone("e", 2, 70, 30), stone("f", 2, 35, 30), stone("g", 2, 0, 30),
	}}
}

// P41.1 to P41.3
func TestWall(t *testing.T) {
	w := example()
	if e := wall.Check(w); e != api.OK {
		t.Fatal(e)
	}
	courses, e := wall.Courses(w)
	if !reflect.DeepEqual(courses, [][]string{{"b", "a"}, {"c", "d"}, {"g", "f", "e"}}) || e != api.OK {
		t.Errorf("Courses = %v, %d", courses, e)
	}
	for course, want := range [][]int{{70}, {120}, {65, 135}} {
		if got, e := wall.Joints(w, course); !slices.Equal(got, want) || e != api.OK {
			t.Errorf("Joints(%d) = %v, %d", course, got, e)
		}
	}
	for _, n := range []int{-1, 3, 99, math.MaxInt, math.MinInt} {
		if got, e := wall.Joints(w, n); got != nil || e != api.ErrUnknown {
			t.Errorf("Joints(%d) = %v, %d", n, got, e)
		}
	}
	for name, want := range map[string][]string{"a": nil, "c": {"b", "a"}, "d": {"a"}, "g": {"c"}, "f": {"c"}, "e": {"d"}} {
		if got, e := wall.Rests(w, name); !slices.Equal(got, want) || e != api.OK {
			t.Errorf("Rests(%q) = %v, %d", name, got, e)
		}
	}
	if got, e := wall.Rests(w, "x"); got != nil || e != api.ErrUnknown {
		t.Errorf("Rests = %v, %d", got, e)
	}
	if c, e := wall.Broken(w); c != (wall.Clash{Course: 2, Upper: 135, Lower: 120}) || e != api.OK {
		t.Errorf("Broken = %v, %d", c, e)
	}
	for lap, want := range map[int]wall.Clash{7: {}, 8: {Course: 2, Upper: 135, Lower: 120}, 25: {Course: 2, Upper: 135, Lower: 120}, 26: {Course: 1, Upper: 120, Lower: 70}, 28: {Course: 1, Upper: 120, Lower: 70}, 0: {}} {
		w.Lap = lap
		c, e := wall.Broken(w)
		if c != want || (e == api.OK) != (want.Course > 0) || e != api.OK && e != api.ErrNone {
			t.Errorf("Broken with the lap %d = %v, %d", lap, c, e)
		}
	}
}

// P41.2, P41.3: stones that only touch, the leftmost joints, and a wall without stones.
func TestEdges(t *testing.T) {
	w := api.Wall{Name: "w", Length: 90, Lap: 50, Stones: []api.Stone{stone("a", 0, 0, 30), stone("b", 0, 30, 30), stone("c", 0, 60, 30), stone("d", 1, 0, 30), stone("e", 1, 30, 60)}}
	w.Joint.Hi = 10
	if c, e := wall.Broken(w); c != (wall.Clash{Course: 1, Upper: 60, Lower: 60}) || e != api.OK {
		t.Errorf("Broken = %v, %d", c, e)
	}
	if got, _ := wall.Rests(w, "d"); !slices.Equal(got, []string{"a"}) {
		t.Errorf("Rests = %v", got)
	}
	if got, _ := wall.Rests(w, "e"); !slices.Equal(got, []string{"b", "c"}) {
		t.Errorf("Rests = %v", got)
	}
	w.Stones = nil
	courses, e := wall.Courses(w)
	if len(courses) != 0 || e != api.OK {
		t.Errorf("Courses = %v, %d", courses, e)
	}
	if _, e := wall.Joints(w, 0); e != api.ErrUnknown {
		t.Errorf("Joints = %d", e)
	}
	if _, e := wall.Broken(w); e != api.ErrNone {
		t.Errorf("Broken = %d", e)
	}
}

type refusal struct {
	change func(w *api.Wall)
	e      api.Errno
}

func refusals() []refusal {
	set := func(place func(w *api.Wall) *int, e api.Errno, values ...int) []refusal {
		var list []refusal
		for _, n := range values {
			list = append(list, refusal{func(w *api.Wall) { *place(w) = n; w.Joint.Lo = max(w.Joint.Lo, 6) }, e})
		}
		return list
	}
	list := []refusal{
		{func(w *api.Wall) { w.Stones = make([]api.Stone, 513) }, api.ErrTooMany},
		{func(w *api.Wall) { w.Stones = make([]api.Stone, 512); w.Length = 0 }, api.ErrName},
		{func(w *api.Wall) { w.Name = "W"; w.Length = 0 }, api.ErrName},
		{func(w *api.Wall) { w.Stones[6].Name = strings.Repeat("g", 25); w.Length = 0 }, api.ErrName},
		{func(w *api.Wall) { w.Joint.Lo = 11; w.Stones[6].Name = "a" }, api.ErrInvalid},
		{func(w *api.Wall) { w.Stones[6].Name = "f"; w.Stones[6].Course = 9 }, api.ErrDuplicate},
		{func(w *api.Wall) { w.Stones[0].Name = "bb"; w.Stones[6].Course = 9 }, api.ErrDuplicate},
		{func(w *api.Wall) { w.Stones[2].Course, w.Stones[3].Course, w.Stones[0].At.Z = 3, 3, 6 }, api.ErrNone},
		{func(w *api.Wall) { w.Stones = w.Stones[2:] }, api.ErrNone},
		{func(w *api.Wall) { w.Stones[1].At.Z++; w.Stones[3].At.X = 50 }, api.ErrConflict},
		{func(w *api.Wall) { w.Stones[4].Size.Z++; w.Stones[3].At.X = 50 }, api.ErrConflict},
		{func(w *api.Wall) { w.Stones[0].At.Z--; w.Stones[1].At.Z--; w.Stones[3].At.X = 50 }, api.ErrConflict},
		{func(w *api.Wall) { w.Stones[0].Size.Z += 6; w.Stones[1].Size.Z += 6; w.Stones[3].At.X = 50 }, api.ErrConflict},
		{func(w *api.Wall) { w.Stones[0].Size.Z += 5; w.Stones[1].Size.Z += 5 }, api.OK},
		{func(w *api.Wall) { w.Stones[3].At.X = 54; w.Stones[0].At.X = 41 }, api.ErrOverlap},
		{func(w *api.Wall) { w.Stones[1].At.X = 40 }, api.ErrOverlap},
		{func(w *api.Wall) { w.Stones[0].At.X, w.Stones[0].Size.X = 41, 59 }, api.ErrConflict},
		{func(w *api.Wall) { w.Stones[0].At.X, w.Stones[0].Size.X = 34, 66 }, api.ErrConflict},
		{func(w *api.Wall) { w.Stones[0].At.X, w.Stones[0].Size.X = 35, 65 }, api.OK},
		{func(w *api.Wall) { w.Stones[1].At.X = 1 }, api.ErrConflict},
		{func(w *api.Wall) { w.Stones[0].Size.X++ }, api.ErrConflict},
		{func(w *api.Wall) { w.Length++ }, api.ErrConflict},
		{func(w *api.Wall) { w.Stones[0].Size.Y, w.Stones[0].At.Y = math.MinInt, math.MaxInt }, api.OK},
	}
	bad := []int{-1, top + 1, math.MaxInt, math.MinInt}
	list = append(list, set(func(w *api.Wall) *int { return &w.Length }, api.ErrRange, append(bad, 0)...)...)
	list = append(list, set(func(w *api.Wall) *int { return &w.Lap }, api.ErrRange, bad...)...)
	list = append(list, set(func(w *api.Wall) *int { return &w.Joint.Hi }, api.ErrRange, -1, 1001)...)
	list = append(list, set(func(w *api.Wall) *int { return &w.Joint.Lo }, api.ErrRange, 1001)...)
	list = append(list, set(func(w *api.Wall) *int { return &w.Stones[6].Size.X }, api.ErrRange, append(bad, 0)...)...)
	list = append(list, set(func(w *api.Wall) *int { return &w.Stones[6].Size.Z }, api.ErrRange, append(bad, 0)...)...)
	list = append(list, set(func(w *api.Wall) *int { return &w.Stones[6].At.X }, api.ErrRange, bad...)...)
	list = append(list, set(func(w *api.Wall) *int { return &w.Stones[6].At.Z }, api.ErrRange, bad...)...)
	list = append(list, set(func(w *api.Wall) *int { return &w.Stones[6].Tol }, api.ErrRange, -1, 101)...)
	return append(list, set(func(w *api.Wall) *int { return &w.Stones[6].Course }, api.ErrRange, -1, 100, math.MaxInt)...)
}

// P41.1, P1: each error, and which one comes first.
func TestErrors(t *testing.T) {
	for i, c := range refusals() {
		w := example()
		c.change(&w)
		courses, e1 := wall.Courses(w)
		joints, e2 := wall.Joints(w, 0)
		clash, e3 := wall.Broken(w)
		rests, e4 := wall.Rests(w, "a")
		if c.e == api.OK {
			e3 = api.OK
		}
		for k, e := range []api.Errno{wall.Check(w), e1, e2, e3, e4} {
			if e != c.e {
				t.Errorf("refusal %d, function %d: %d, want %d", i, k, e, c.e)
			}
		}
		if c.e != api.OK && (courses != nil || joints != nil || clash != (wall.Clash{}) || rests != nil) {
			t.Errorf("refusal %d has results", i)
		}
	}
}

// P41.4: the examples.
func TestLayout(t *testing.T) {
	sizes := []int{20, 30, 40}
	if got, e := wall.Layout(100, 10, 20, sizes, nil); !slices.Equal(got, []int{20, 20, 40}) || e != api.OK {
		t.Errorf("Layout = %v, %d", got, e)
	}
	if got, e := wall.Layout(100, 10, 20, sizes, []int{60}); got != nil || e != api.ErrNone {
		t.Errorf("Layout = %v, %d", got, e)
	}
	if got, e := wall.Reach(60, 10, 0, []int{20}, nil); !slices.Equal(got, []int{0, 30}) || e != api.OK {
		t.Errorf("Reach = %v, %d", got, e)
	}
	if got, e := wall.Layout(20, 10, 20, sizes, []int{40}); !slices.Equal(got, []int{20}) || e != api.OK {
		t.Errorf("Layout = %v, %d", got, e)
	}
	for i, c := range []struct {
		list []int
		want bool
	}{
		{[]int{20, 20, 40}, true}, {[]int{40, 20, 20}, true}, {[]int{20, 40, 20}, true}, {[]int{30, 30, 20}, true}, {[]int{20, 20, 30}, false}, {[]int{20, 20, 40, 20}, false}, {[]int{20, 20}, false}, {nil, false}, {[]int{25, 15, 40}, false}, {[]int{40, 50}, false}, {[]int{math.MaxInt, math.MinInt}, false}, {[]int{-20, 20, 40}, false},
	} {
		if got := wall.Laid(100, 10, 20, sizes, nil, c.list); got != c.want {
			t.Errorf("Laid %d = %v", i, got)
		}
	}
	// A joint that is exactly a lap away is far enough.
	if !wall.Laid(70, 10, 20, sizes, []int{90}, []int{20, 40}) || wall.Laid(70, 10, 20, sizes, []int{89}, []int{20, 40}) || !wall.Laid(70, 10, 20, sizes, []int{10}, []int{20, 40}) || wall.Laid(70, 10, 20, sizes, []int{11}, []int{20, 40}) {
		t.Error("Laid over a joint")
	}
}

// P41.4, P1
func TestLayoutErrors(t *testing.T) {
	ok := []int{20}
	for i, c := range []struct {
		length, joint, lap int
		sizes, below       []int
		e                  api.Errno
	}{
		{0, -1, -1, make([]int, 17), nil, api.ErrTooMany}, {0, -1, -1, nil, make([]int, 201), api.ErrTooMany}, {0, 0, 0, make([]int, 16), make([]int, 200), api.ErrRange},
		{0, 0, 0, nil, nil, api.ErrRange}, {20001, 0, 0, nil, nil, api.ErrRange}, {math.MaxInt, 0, 0, nil, nil, api.ErrRange}, {100, -1, 0, nil, nil, api.ErrRange}, {100, 1001, 0, nil, nil, api.ErrRange}, {100, 0, -1, nil, nil, api.ErrRange}, {100, 0, 20001, nil, nil, api.ErrRange},
		{100, 0, 0, []int{30, 0}, nil, api.ErrRange}, {100, 0, 0, []int{30, 20001}, nil, api.ErrRange}, {100, 0, 0, nil, []int{-1}, api.ErrRange}, {100, 0, 0, nil, []int{40001}, api.ErrRange}, {100, 0, math.MinInt, nil, []int{math.MinInt}, api.ErrRange},
		{100, 0, 0, nil, nil, api.ErrInvalid}, {100, 0, 0, []int{20, 20}, nil, api.ErrInvalid}, {100, 0, 0, []int{20, 10}, nil, api.ErrInvalid},
		{20, 1000, 20000, ok, []int{40000, 0, 40000}, api.OK},
	} {
		list, e1 := wall.Layout(c.length, c.joint, c.lap, c.sizes, c.below)
		reach, e2 := wall.Reach(c.length, c.joint, c.lap, c.sizes, c.below)
		if e1 != c.e || e2 != c.e || c.e != api.OK && (list != nil || reach != nil) {
			t.Errorf("Layout, Reach %d = %v, %d, %v, %d", i, list, e1, reach, e2)
		}
		if laid := wall.Laid(c.length, c.joint, c.lap, c.sizes, c.below, ok); laid != (c.e == api.OK) {
			t.Errorf("Laid %d = %v", i, laid)
		}
	}
	long, e := wall.Layout(20000, 0, 1, []int{1, 2}, []int{4})
	if len(long) != 19999 || long[0] != 1 || long[1] != 2 || e != api.OK {
		t.Errorf("Layout has %d, %d", len(long), e)
	}
}

// layouts visits all lists of sizes that stay within the length, with the places where their stones begin.
func layouts(length, joint, lap int, sizes, below []int, visit func(list []int, at int, isWhole bool)) {
	isFar := func(m int) bool {
		return !slices.ContainsFunc(below, func(b int) bool { return max(m-b, b-m) < 2*lap })
	}
	var try func(list []int, at int)
	try = func(list []int, at int) {
		visit(list, at, false)
		for _, s := range sizes {
			next := append(slices.Clone(list), s)
			if at+s == length {
				visit(next, at, true)
			} else if at+s+joint < length && isFar(2*(at+s)+joint) {
				try(next, at+s+joint)
			}
		}
	}
	try(nil, 0)
}

// P41.4, P41.5: by trial of all layouts.
func TestByTrial(t *testing.T) {
	r := rand.New(rand.NewSource(1))
	for range 2000 {
		length, joint, lap := 1+r.Intn(30), r.Intn(4), r.Intn(4)
		var sizes, below []int
		for n := 3 + r.Intn(3); n <= 12 && len(sizes) < 4; n += 1 + r.Intn(4) {
			sizes = append(sizes, n)
		}
		for range r.Intn(3) {
			below = append(below, r.Intn(60))
		}
		var least []int
		begins := map[int]bool{}
		layouts(length, joint, lap, sizes, below, func(list []int, at int, isWhole bool) {
			if !isWhole {
				begins[at] = true
				return
			}
			if !wall.Laid(length, joint, lap, sizes, below, list) {
				t.Fatalf("Laid(%d, %d, %d, %v, %v, %v)", length, joint, lap, sizes, below, list)
			}
			if least == nil || slices.Compare(list, least) < 0 {
				least = slices.Clone(list)
			}
		})
		got, e := wall.Layout(length, joint, lap, sizes, below)
		if !slices.Equal(got, least) || (e == api.OK) != (least != nil) || e != api.OK && e != api.ErrNone {
			t.Fatalf("Layout(%d, %d, %d, %v, %v) = %v, %d, want %v", length, joint, lap, sizes, below, got, e, least)
		}
		reach, e := wall.Reach(length, joint, lap, sizes, below)
		if len(reach) != len(begins) || !slices.IsSorted(reach) || e != api.OK || slices.ContainsFunc(reach, func(n int) bool { return !begins[n] }) {
			t.Fatalf("Reach(%d, %d, %d, %v, %v) = %v, %d, want %v", length, joint, lap, sizes, below, reach, e, begins)
		}
	}
}

// P41.5: a wall of layouts has no joints that are too close.
func TestWallOfLayouts(t *testing.T) {
	w := api.Wall{Name: "w", Length: 300, Lap: 12, Joint: api.Interval{Lo: 4, Hi: 10}}
	var below []int
	for k := range 5 {
		list, e := wall.Layout(300, 4, 12, []int{30, 37, 44, 51, 60}, below)
		if e != api.OK {
			t.Fatal(e)
		}
		below = nil
		at := 0
		for i, n := range list {
			w.Stones = append(w.Stones, stone("s"+strconv.Itoa(k)+strconv.Itoa(100+i), k, at, n))
			at += n + 4
		}
		below, e = wall.Joints(w, k)
		if e != api.OK {
			t.Fatal(e)
		}
	}
	if c, e := wall.Broken(w); e != api.ErrNone {
		t.Errorf("Broken = %v, %d", c, e)
	}
	for _, s := range w.Stones {
		if rests, e := wall.Rests(w, s.Name); e != api.OK || s.Course > 0 && len(rests) == 0 {
			t.Errorf("Rests(%q) = %v, %d", s.Name, rests, e)
		}
	}
}
