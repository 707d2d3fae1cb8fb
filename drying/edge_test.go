package drying_test

import (
	"testing"

	"gangsaw/api"
	"gangsaw/drying"
)

// P51.1: as many points as there may be.
func TestLimits(t *testing.T) {
	r := drying.Rule{}
	for i := range 16 {
		r.Thickness, r.Minutes = append(r.Thickness, i+1), append(r.Minutes, 10*i)
	}
	if n, e := drying.Time(r, 9); n != 80 || e != api.OK {
		t.Errorf("Time = %d, %d", n, e)
	}
	one := drying.Rule{Thickness: []int{7}, Minutes: []int{3}}
	if n, e := drying.Time(one, 99); n != 3 || e != api.OK {
		t.Errorf("Time = %d, %d", n, e)
	}
}
