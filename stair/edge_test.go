package stair_test

import (
	"testing"

	"gangsaw/api"
	"gangsaw/stair"
)

// P42.1, P42.4: the least and the greatest sills and flights.
func TestEdges(t *testing.T) {
	if v, e := stair.Sill(1, 0, 1, 0, 1); v != (api.Vec{X: 1, Y: 1, Z: 1}) || e != api.OK {
		t.Errorf("Sill = %v, %d", v, e)
	}
	if v, e := stair.Sill(1, 1000, 10000, 1000, 1); v != (api.Vec{X: 2001, Y: 11000, Z: 1}) || e != api.OK {
		t.Errorf("Sill = %v, %d", v, e)
	}
	if i, e := stair.Spread(flight(), 0); i != in(1000, 1000) || e != api.OK {
		t.Errorf("Spread = %v, %d", i, e)
	}
	if h, l, e := stair.Height(stair.Flight{Rises: 1, Rise: 1, Going: 1, Width: 1}); h != 1 || l != 1 || e != api.OK {
		t.Errorf("Height = %d, %d, %d", h, l, e)
	}
	if h, l, e := stair.Height(stair.Flight{Rises: 64, Rise: 10000, Extra: 63, Going: 10000, Width: 10000, Lap: 1000}); h != 640063 || l != 640000 || e != api.OK {
		t.Errorf("Height = %d, %d, %d", h, l, e)
	}
}
