package anchor_test

import (
	"testing"

	"gangsaw/anchor"
	"gangsaw/api"
)

// P44.1 to P44.4: numbers at their limits, and results beside errors.
func TestEdges(t *testing.T) {
	least := anchor.Rule{Space: 1, Bears: 1}
	if e := anchor.Check(v(1, 1, 1), []api.Anchor{an(0, 0, 0, 0), an(0, 1, 1, 0)}, least); e != api.OK {
		t.Errorf("Check = %d", e)
	}
	var many []api.Anchor
	for i := range anchor.MaxAnchors {
		many = append(many, an(2, 100*i, 0, 0))
	}
	if e := anchor.Check(v(top, top, top), many, least); e != api.OK {
		t.Errorf("Check = %d", e)
	}
	if i, k, e := anchor.Clash(v(top, top, top), many, 10000, 10000); i != 0 || k != 1 || e != api.OK {
		t.Errorf("Clash = %d, %d, %d", i, k, e)
	}
	if i, k, e := anchor.Clash(v(1, 1, 1), nil, 1, 1); i != 0 || k != 0 || e != api.ErrNone {
		t.Errorf("Clash = %d, %d, %d", i, k, e)
	}
	if i, k, e := anchor.Clash(v(1, 1, 1), nil, 0, 1); i != 0 || k != 0 || e != api.ErrInvalid {
		t.Errorf("Clash = %d, %d, %d", i, k, e)
	}
	n, e := anchor.Needed(5, anchor.Rule{})
	m, f := anchor.Needed(-5, least)
	if n != 0 || m != 0 || e != api.ErrInvalid || f != api.ErrRange {
		t.Errorf("Needed = %d, %d, %d, %d", n, m, e, f)
	}
}
