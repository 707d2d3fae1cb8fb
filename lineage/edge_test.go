package lineage_test

import (
	"math"
	"strconv"
	"testing"

	"gangsaw/api"
	"gangsaw/lineage"
)

// P32.1: as many pieces as there may be, and sides that are as long as they may be.
func TestEdges(t *testing.T) {
	var many []api.Piece
	for i := range api.MaxPieces {
		many = append(many, piece("p"+strconv.Itoa(i), "", 0, bx(i, 0, 0, i+1, 1, 1)))
	}
	if e := lineage.Check(many); e != api.OK {
		t.Errorf("Check = %d", e)
	}
	if e := lineage.Check([]api.Piece{piece("a", "", 12, bx(-top, 0, -5, 0, top, top-5))}); e != api.OK {
		t.Errorf("Check = %d", e)
	}
	if list, e := lineage.Cut(family(), "c", []api.Node{{}}); list != nil || e != api.ErrState {
		t.Errorf("Cut = %v, %d", list, e)
	}
	for i, b := range []api.Box{bx(-top, 0, 0, 1, 1, 1), bx(0, -1, 0, 1, top, 1), bx(0, 0, -1, 1, 1, top), bx(0, 0, top, 1, 1, top+1), bx(math.MaxInt-5, 0, 0, math.MinInt+5, 1, 1), {}} {
		if e := lineage.Check([]api.Piece{{Id: "a", Pose: api.Pose{Shift: b.Min}, Box: b}}); e != api.ErrInvalid {
			t.Errorf("Check of box %d = %d", i, e)
		}
	}
}
