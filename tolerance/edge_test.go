package tolerance_test

import (
	"slices"
	"testing"

	"gangsaw/api"
	"gangsaw/tolerance"
)

// P43.1: as many stones as there may be.
func TestEdges(t *testing.T) {
	r := tolerance.Run{Places: at(api.MaxStones, 5*api.MaxStones)}
	for range api.MaxStones {
		r.Lengths = append(r.Lengths, in(5, 5))
	}
	joints, e := tolerance.Joints(r, slices.Repeat([]int{5}, api.MaxStones))
	if len(joints) != api.MaxStones-1 || e != api.OK {
		t.Errorf("Joints: %d, %d", len(joints), e)
	}
	if part, lengths, e := tolerance.Failing(r); part != 0 || lengths != nil || e != api.ErrNone {
		t.Errorf("Failing = %d, %v, %d", part, lengths, e)
	}
}
