package colour_test

import (
	"testing"

	"gangsaw/api"
	"gangsaw/colour"
)

// P35.4: the first slab may be the nearest one; P1: results beside errors.
func TestEdges(t *testing.T) {
	slabs := []api.Slab{{Colour: 2, Front: []int{5, 5}}, {Colour: 2, Front: []int{9, 9}}, {Colour: 2, Front: []int{5, 5}}, {Colour: 2, Front: []int{7, 7}}}
	if i, e := colour.Nearest([]int{5, 6}, 2, slabs); i != 0 || e != api.OK {
		t.Errorf("Nearest = %d, %d", i, e)
	}
	if i, e := colour.Nearest([]int{5, 6}, 2, slabs[:1]); i != 0 || e != api.OK {
		t.Errorf("Nearest = %d, %d", i, e)
	}
	mismatch, _ := colour.Mismatch(nil, nil)
	offset, _ := colour.Offset(nil, nil, 0)
	d, mean, _ := colour.Align(nil, nil, 0)
	between, _ := colour.Between(api.Slab{}, false, api.Slab{}, false)
	other, _ := colour.Between(slabs[0], false, api.Slab{}, false)
	if mismatch+offset+d+mean+between+other != 0 {
		t.Errorf("%d, %d, %d, %d, %d, %d", mismatch, offset, d, mean, between, other)
	}
}
