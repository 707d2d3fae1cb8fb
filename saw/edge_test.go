package saw_test

import (
	"strconv"
	"testing"

	"gangsaw/api"
	"gangsaw/saw"
)

// P29.1 to P29.3: as many saws as there may be, and results beside errors.
func TestEdges(t *testing.T) {
	var list []api.Saw
	for i := range saw.MaxSaws {
		s := frame()
		s.Name = "s" + strconv.Itoa(100+i)
		list = append(list, s)
	}
	if e := saw.Check(list); e != api.OK {
		t.Errorf("Check = %d", e)
	}
	if i, e := saw.Choose(list, sized(10, 10, 10), 0, 5); i != 0 || e != api.OK {
		t.Errorf("Choose = %d, %d", i, e)
	}
	bad := frame()
	bad.Name = "F"
	area, e1 := saw.Area(api.Box{}, 0)
	minutes, e2 := saw.Minutes(bad, 5)
	none, e3 := saw.Minutes(frame(), 0)
	first, e4 := saw.Choose([]api.Saw{bad}, sized(1, 1, 1), 0, 5)
	second, e5 := saw.Choose(list, api.Box{}, 0, 5)
	if area != 0 || minutes+none+first+second != 0 || e1 != api.ErrInvalid || e2 != api.ErrName || e3 != api.ErrInvalid || e4 != api.ErrName || e5 != api.ErrInvalid {
		t.Errorf("%d, %d, %d, %d, %d", area, minutes, none, first, second)
	}
}
