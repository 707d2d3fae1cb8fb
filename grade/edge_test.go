package grade_test

import (
	"testing"

	"gangsaw/api"
	"gangsaw/grade"
)

// P34.2, P1: results beside errors.
func TestEdges(t *testing.T) {
	for _, x := range []api.Grade{g("A", 1, 0, 0), g("a", 0, 0, 0)} {
		meets, _ := grade.Meets(x, lot())
		fails, _ := grade.Fails(x, lot())
		s, a, e := grade.Margin(x, lot())
		if meets || fails != nil || s != 0 || a != 0 || e == api.OK {
			t.Errorf("%v: %v, %v, %d, %d, %d", x, meets, fails, s, a, e)
		}
	}
}
