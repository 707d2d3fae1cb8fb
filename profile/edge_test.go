package profile_test

import (
	"testing"

	"gangsaw/api"
	"gangsaw/profile"
)

// P39.4: the least stairs and rectangles.
func TestEdges(t *testing.T) {
	if p, e := profile.Step("s", 1, 1, 1); !same(p, api.Profile{Name: "s", Outline: outline(0, 0, 1, 0, 1, 1, 0, 1)}) || e != api.OK {
		t.Errorf("Step = %v, %d", p, e)
	}
	if n, e := profile.Waste(of(0, 0, 1, 0, 0, 1), 1, 1); n != 1 || e != api.OK {
		t.Errorf("Waste = %d, %d", n, e)
	}
}
