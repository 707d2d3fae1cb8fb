package stock_test

import (
	"slices"
	"testing"

	"gangsaw/api"
	"gangsaw/stock"
)

// P37.3: nothing is lacking if exactly what is wanted is free; P1: the greatest list, and results beside errors.
func TestEdges(t *testing.T) {
	s := stock.New()
	s.Add("a", 7)
	if list, e := s.Replenish([]hold{{"x", "a", 4}, {"y", "a", 3}}); len(list) != 0 || e != api.OK {
		t.Errorf("Replenish = %v, %d", list, e)
	}
	var many []hold
	for range stock.MaxHolds {
		many = append(many, hold{"x", "a", stock.MaxCount})
	}
	if list, e := s.Replenish(many); !slices.Equal(list, []entry{{"a", stock.MaxHolds*stock.MaxCount - 7, 0}}) || e != api.OK {
		t.Errorf("Replenish = %v, %d", list, e)
	}
	for _, order := range []string{"X", "x"} {
		if n, e := s.Cancel(order); n != 0 || e == api.OK {
			t.Errorf("Cancel(%q) = %d, %d", order, n, e)
		}
	}
}
