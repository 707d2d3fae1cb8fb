package sample_test

import (
	"slices"
	"testing"

	"gangsaw/api"
	"gangsaw/sample"
)

// P33.1, P33.2, P33.4: as many tests as there may be, quartiles of eight strengths, and results beside errors.
func TestEdges(t *testing.T) {
	if e := sample.Check(strong(make([]int, api.MaxTests)...)); e != api.OK {
		t.Errorf("Check = %d", e)
	}
	if got, e := sample.Outliers(strong(90, 100, 100, 100, 100, 100, 150, 150)); !slices.Equal(got, []string{"s0"}) || e != api.OK {
		t.Errorf("Outliers = %v, %d", got, e)
	}
	if got, e := sample.Confidence(18, 0, f(1, 10)); got != (api.Frac{}) || e != api.ErrRange {
		t.Errorf("Confidence = %v, %d", got, e)
	}
	strength, e1 := sample.Strength(strong(5), 2)
	absorption, e2 := sample.Absorption(strong(5), 2)
	lo, hi, e3 := sample.Median(nil)
	if strength+absorption+lo+hi != 0 || e1 != api.ErrNone || e2 != api.ErrNone || e3 != api.ErrNone {
		t.Errorf("%d, %d, %d, %d", strength, absorption, lo, hi)
	}
}
