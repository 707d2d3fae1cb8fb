package offcut_test

import (
	"strings"
	"testing"

	"gangsaw/api"
	"gangsaw/offcut"
)

// P31.3, P31.4: as many wants as there may be, and ids that are as long as they may be.
func TestEdges(t *testing.T) {
	var list []offcut.Want
	for range 256 {
		list = append(list, want("w", 1, 1, 1))
	}
	if _, uses, names, e := offcut.Serve([]api.Remnant{rem("r", 9, 9, 9)}, list[:1], 0, 9); len(uses) != 1 || len(names) != 0 || e != api.OK {
		t.Errorf("Serve = %v, %v, %d", uses, names, e)
	}
	if _, uses, names, e := offcut.Serve(nil, list, 0, 9); len(uses) != 0 || len(names) != 256 || e != api.OK {
		t.Errorf("Serve = %v, %v, %d", uses, names, e)
	}
	id := strings.Repeat("r", 23)
	if rests, e := offcut.Rest(rem(id, 9, 9, 9), want("w", 9, 9, 5), 0); len(rests) != 1 || rests[0].Id != id+"c" || e != api.OK {
		t.Errorf("Rest = %v, %d", rests, e)
	}
	if i, e := offcut.Best([]api.Remnant{rem("R", 9, 9, 9)}, want("w", 1, 1, 1), 0); i != 0 || e != api.ErrName {
		t.Errorf("Best = %d, %d", i, e)
	}
	if n, e := offcut.Volume([]api.Remnant{rem("R", 9, 9, 9)}); n != 0 || e != api.ErrName {
		t.Errorf("Volume = %d, %d", n, e)
	}
}
