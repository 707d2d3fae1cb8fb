package slab_test

import (
	"strconv"
	"testing"

	"gangsaw/api"
	"gangsaw/slab"
)

// P30.1, P30.3, P30.5: as many slabs and numbers as there may be.
func TestEdges(t *testing.T) {
	var list []api.Slab
	for i := range api.MaxSlabs {
		list = append(list, numbered("s"+strconv.Itoa(i), "b", i))
	}
	runs, e := slab.Runs(list)
	if f := slab.Valid(list); f != api.OK || e != api.OK || len(runs) != 1 || len(runs[0]) != api.MaxSlabs {
		t.Errorf("%d, %d, %d runs", f, e, len(runs))
	}
	s := whole()
	s.Front, s.Back = make([]int, slab.MaxCode), make([]int, slab.MaxCode)
	text, e := slab.Encode(s)
	if back, f := slab.Decode(text); e != api.OK || f != api.OK || len(back.Back) != slab.MaxCode {
		t.Errorf("%d, %d", e, f)
	}
	if n, e := slab.Count(sawing(0, 0, 0, 1), 5); n != 0 || e != api.ErrRange {
		t.Errorf("Count = %d, %d", n, e)
	}
}
