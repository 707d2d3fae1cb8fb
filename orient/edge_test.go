package orient_test

import (
	"testing"

	"gangsaw/api"
	"gangsaw/orient"
)

// P28.2, P1: arguments that are out of range, although the result would be in range.
func TestEdges(t *testing.T) {
	for _, c := range []struct{ shift, point api.Vec }{{v(top+1, 0, 0), v(-1, 0, 0)}, {v(-1, 0, 0), v(top+1, 0, 0)}} {
		if p, e := orient.Point(api.Pose{Shift: c.shift}, c.point); p != v(0, 0, 0) || e != api.ErrRange {
			t.Errorf("Point(%v, %v) = %v, %d", c.shift, c.point, p, e)
		}
		if p, e := orient.Join(api.Pose{Shift: c.shift}, api.Pose{Shift: c.point}); p != (api.Pose{}) || e != api.ErrRange {
			t.Errorf("Join(%v, %v) = %v, %d", c.shift, c.point, p, e)
		}
	}
	if b, e := orient.Box(pose(0, top+1, 0, 0), bx(-5, 0, 0, -3, 1, 1)); b != (api.Box{}) || e != api.ErrRange {
		t.Errorf("Box = %v, %d", b, e)
	}
	if p, e := orient.Place(2, v(5, 1, 1), v(top+1, 0, 0)); p != (api.Pose{}) || e != api.ErrRange {
		t.Errorf("Place = %v, %d", p, e)
	}
}
