package jobshop_test

import (
	"slices"
	"strconv"
	"testing"

	"gangsaw/api"
	"gangsaw/jobshop"
)

// P50.3: the order of slots and names.
func TestEdges(t *testing.T) {
	var list []api.Job
	var slots []api.Slot
	var names []string
	for i := range 9 {
		name := "j" + strconv.Itoa(i)
		list, names = append(list, api.Job{Name: name, Steps: []api.Step{step("saw", 1, 0)}, Due: i}), append(names, name)
		slots = append(slots, slot(name, 0, "m", 0, 10))
	}
	for range 5 {
		if got, sum, e := jobshop.Late(list, slots); !slices.Equal(got, names) || sum != 54 || e != api.OK {
			t.Errorf("Late = %v, %d, %d", got, sum, e)
		}
	}
	m := []api.Machine{{Name: "m", Work: "saw", Setup: 100}}
	mixed := []api.Slot{slot("a", 0, "m", 0, 1), slot("b", 0, "m", 5, 6), slot("a", 1, "m", 2, 3), slot("b", 1, "m", 7, 8)}
	if n, e := jobshop.Busy(m, mixed, "m"); n != 104 || e != api.OK {
		t.Errorf("Busy = %d, %d", n, e)
	}
	same := []api.Slot{slot("b", 0, "m", 0, 1), slot("a", 0, "m", 0, 1), slot("b", 1, "m", 0, 1)}
	if n, e := jobshop.Busy(m, same, "m"); n != 103 || e != api.OK {
		t.Errorf("Busy = %d, %d", n, e)
	}
	if n, e := jobshop.Busy(m, nil, "x"); n != 0 || e != api.ErrUnknown {
		t.Errorf("Busy = %d, %d", n, e)
	}
}
