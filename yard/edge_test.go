package yard_test

import (
	"strconv"
	"testing"

	"gangsaw/api"
	"gangsaw/yard"
)

// P59.1: a cut may make the items as many as there may be.
func TestEdges(t *testing.T) {
	y := yard.New()
	for i := range 4092 {
		f := api.Fact{Kind: "free", Names: []string{"b" + strconv.Itoa(i)}, Values: []int64{int64(10 * i), 0, 0, int64(10*i + 10), 1, 1}}
		if e := y.Do(f); e != api.OK {
			t.Fatalf("fact %d: %d", i, e)
		}
	}
	for i, words := range []string{"cut b0 x0 y0 0 5 0", "cut b1 x1 y1 0 15 0"} {
		if e := y.Do(fact(words)); e != api.OK {
			t.Errorf("cut %d: %d", i, e)
		}
	}
	if e := y.Check(fact("free z 0 5 0 1 6 1")); len(y.Items()) != api.MaxPieces || e != api.ErrTooMany {
		t.Errorf("%d items, %d", len(y.Items()), e)
	}
	if e := y.Do(fact("set x0")); e != api.ErrState {
		t.Errorf("set: %d", e)
	}
}
