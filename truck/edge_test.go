package truck_test

import (
	"strconv"
	"testing"

	"gangsaw/api"
	"gangsaw/truck"
)

// P53.1, P53.3: numbers of loads at their limits, without a truck.
func TestEdges(t *testing.T) {
	list := []api.Load{load("a", 50000, 50000, 100000000), load("b", 0, 1, 1)}
	if n, e := truck.Mass(list); n != 100000001 || e != api.OK {
		t.Errorf("Mass = %d, %d", n, e)
	}
	var many []api.Load
	for i := range truck.MaxLoads {
		many = append(many, load("s"+strconv.Itoa(i), i, 1, 1))
	}
	if x, e := truck.Center(many); x != f(32, 1) || e != api.OK {
		t.Errorf("Center = %v, %d", x, e)
	}
}
