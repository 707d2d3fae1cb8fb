package nest_test

import (
	"testing"

	"gangsaw/api"
	"gangsaw/nest"
)

// P46.1, P46.3: sides at their limits, names that are not side by side, and pieces with another parent.
func TestEdges(t *testing.T) {
	huge := block("b", bx(-top, 0, 0, 0, top, top))
	if turn, e := nest.Fits(huge, want("s", api.BedUp, top, top, top)); turn != 0 || e != api.OK {
		t.Errorf("Fits = %d, %d", turn, e)
	}
	o := nest.Order{Blocks: []api.Block{huge}, Wanted: []nest.Wanted{want("s", api.BedUp, top, top, top)}}
	list, left, e := nest.Nest(o)
	if stones, blocks, f := nest.Yield(o, list); len(left) != 0 || stones != 1000000000000000000 || blocks != stones || e != api.OK || f != api.OK {
		t.Errorf("%v, %d, %d, %d, %d", left, stones, blocks, e, f)
	}
	o = nest.Order{Blocks: []api.Block{block("a", bx(0, 0, 0, 10, 10, 10)), block("b", bx(20, 0, 0, 30, 10, 10))}, Wanted: []nest.Wanted{want("s", api.BedUp, 10, 4, 10), want("t", api.BedUp, 10, 6, 10), want("u", api.BedUp, 10, 10, 10)}}
	for i, name := range []string{"s", "t"} {
		list, _, _ = nest.Nest(o)
		list[1].Plan[0].Name = name
		if e := nest.Verify(o, list); e != api.ErrDuplicate {
			t.Errorf("Verify %d = %d", i, e)
		}
	}
	list, _, _ = nest.Nest(o)
	list[0].Plan[2].Name = "s"
	if e := nest.Verify(o, list); e != api.ErrDuplicate {
		t.Errorf("Verify = %d", e)
	}
	list, _, _ = nest.Nest(o)
	list[1].Pieces[0].Box, list[1].Pieces[0].Pose.Shift = bx(50, 0, 0, 60, 10, 10), v(50, 0, 0)
	if e := nest.Verify(o, list); e != api.ErrInvalid {
		t.Errorf("Verify = %d", e)
	}
	list, _, _ = nest.Nest(o)
	list[1].Pieces[1].Parent = ""
	if e := nest.Verify(o, list); e != api.ErrInvalid {
		t.Errorf("Verify = %d", e)
	}
}
