package wall_test

import (
	"slices"
	"strconv"
	"testing"

	"gangsaw/api"
	"gangsaw/wall"
)

// P41.1, P41.2: numbers at their limits, courses of one stone, and as many courses and stones as there may be.
func TestLimits(t *testing.T) {
	w := api.Wall{Name: "w", Length: top, Lap: top, Joint: api.Interval{Lo: wall.MaxJoint, Hi: wall.MaxJoint}, Stones: []api.Stone{
		{Name: "a", Size: api.Vec{X: top, Z: 1}, Tol: 100}, {Name: "b", Course: 1, At: api.Vec{Z: 1001}, Size: api.Vec{X: top, Z: top}},
	}}
	if e := wall.Check(w); e != api.OK {
		t.Errorf("Check = %d", e)
	}
	w.Stones[1].At.Z, w.Stones[0].At.Z = top, top-1001
	if e := wall.Check(w); e != api.OK {
		t.Errorf("Check = %d", e)
	}
	small := api.Wall{Name: "w", Length: 1, Stones: []api.Stone{{Name: "a", Size: api.Vec{X: 1, Z: 1}}}}
	if e := wall.Check(small); e != api.OK {
		t.Errorf("Check = %d", e)
	}
	small.Length, small.Stones[0].At.X = 2, 1
	if e := wall.Check(small); e != api.ErrConflict {
		t.Errorf("Check = %d", e)
	}
	tall := api.Wall{Name: "w", Length: 5}
	for k := range wall.MaxCourse + 1 {
		tall.Stones = append(tall.Stones, api.Stone{Name: "s" + strconv.Itoa(100+k), Course: k, At: api.Vec{Z: k}, Size: api.Vec{X: 5, Z: 1}})
	}
	if courses, e := wall.Courses(tall); len(courses) != 100 || e != api.OK {
		t.Errorf("Courses: %d, %d", len(courses), e)
	}
	long := api.Wall{Name: "w", Length: api.MaxStones}
	for i := range api.MaxStones {
		long.Stones = append(long.Stones, api.Stone{Name: "s" + strconv.Itoa(1000+i), At: api.Vec{X: i}, Size: api.Vec{X: 1, Z: 1}})
	}
	if joints, e := wall.Joints(long, 0); len(joints) != 511 || joints[0] != 2 || e != api.OK {
		t.Errorf("Joints: %v, %d", joints, e)
	}
}

// P41.4: the greatest courses, joints and sizes.
func TestGreatLayouts(t *testing.T) {
	sizes := []int{1, 9500, 19000, 20000}
	if list, e := wall.Layout(20000, 1000, 0, sizes, nil); !slices.Equal(list, []int{9500, 9500}) || e != api.OK {
		t.Errorf("Layout = %v, %d", list, e)
	}
	if list, e := wall.Layout(20000, 1000, 20000, sizes, []int{40000}); !slices.Equal(list, []int{20000}) || e != api.OK {
		t.Errorf("Layout = %v, %d", list, e)
	}
	for i, c := range []struct {
		list []int
		want bool
	}{{[]int{9500, 9500}, true}, {[]int{20000}, true}, {[]int{9500, 20000}, false}, {[]int{19000, 20000}, false}, {[]int{20000, 20000}, false}, {[]int{19000, 1}, false}, {[]int{9500, 19000, 1}, false}} {
		if got := wall.Laid(20000, 1000, 0, sizes, nil, c.list); got != c.want {
			t.Errorf("Laid %d = %v", i, got)
		}
	}
	if reach, e := wall.Reach(20000, 1000, 0, []int{9500, 9600, 19000}, nil); !slices.Equal(reach, []int{0, 10500, 10600}) || e != api.OK {
		t.Errorf("Reach = %v, %d", reach, e)
	}
}
