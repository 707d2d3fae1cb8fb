package assign_test

import (
	"testing"

	"gangsaw/api"
	"gangsaw/assign"
)

// P38.1, P38.5: right nodes that occur twice, but not side by side, and the right node 0.
func TestEdges(t *testing.T) {
	g := graph(3, 2, [3]int{0, 0, 1}, [3]int{1, 1, 1}, [3]int{2, 0, 1})
	if n, e := assign.CheckMatching(g, []int{0, 1, 0}); n != 0 || e != api.ErrDuplicate {
		t.Errorf("CheckMatching = %d, %d", n, e)
	}
	if m, e := assign.Change(g, []int{0, 1, -1}, 0, nil); m != nil || e != api.ErrState {
		t.Errorf("Change = %v, %d", m, e)
	}
	if m, e := assign.Change(g, []int{0, 1, -1}, 2, nil); m != nil || e != api.ErrNone {
		t.Errorf("Change = %v, %d", m, e)
	}
}
