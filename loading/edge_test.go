package loading_test

import (
	"strconv"
	"testing"

	"gangsaw/api"
	"gangsaw/loading"
)

// P54.1: the axles have their own numbers, and lengths may be 1.
func TestEdges(t *testing.T) {
	x := api.Truck{Name: "t", Length: 1, Front: 0, Rear: 1, Limits: [2]int64{10, 100}, Empty: [2]int64{9, 99}}
	if e := loading.Check(x, stones(1, 1, "a")); e != api.OK {
		t.Errorf("Check = %d", e)
	}
	for i, c := range [][4]int64{{10, 100, 11, 99}, {10, 100, 9, 101}, {10, 100, 99, 9}, {100, 10, 9, 99}} {
		x.Limits, x.Empty = [2]int64{c[0], c[1]}, [2]int64{c[2], c[3]}
		if e := loading.Check(x, nil); e != api.ErrRange {
			t.Errorf("Check %d = %d", i, e)
		}
	}
	x.Limits, x.Empty = [2]int64{10, 100}, [2]int64{10, 100}
	if e := loading.Check(x, nil); e != api.OK {
		t.Errorf("Check = %d", e)
	}
	if front, rear, e := loading.Moments(lorry(), loading.Trip{}, 1); front != 0 || rear != 0 || e != api.ErrRange {
		t.Errorf("Moments = %d, %d, %d", front, rear, e)
	}
	var names []string
	for i := range loading.MaxCargo {
		names = append(names, "s"+strconv.Itoa(i))
	}
	if e := loading.Check(lorry(), stones(30000, 1000000000, names...)); e != api.OK {
		t.Errorf("Check = %d", e)
	}
}
