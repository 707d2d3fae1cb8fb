package shelf_test

import (
	"testing"

	"gangsaw/api"
	"gangsaw/shelf"
)

// P27.1, P27.3, P27.5: parts that are as wide and as high as the sheet, and sums that are rounded down.
func TestEdges(t *testing.T) {
	parts := []shelf.Part{{Name: "a", W: 9, H: 7}}
	if sheets, e := shelf.Sheets(parts, 9, 7, 3); len(sheets) != 1 || e != api.OK {
		t.Errorf("Sheets = %v, %d", sheets, e)
	}
	if n, e := shelf.Height(parts, 9, 3); n != 7 || e != api.OK {
		t.Errorf("Height = %d, %d", n, e)
	}
	if n, e := shelf.Bound(nil, 1, 0); n != 0 || e != api.OK {
		t.Errorf("Bound = %d, %d", n, e)
	}
	var many []shelf.Part
	for range api.MaxItems {
		many = append(many, parts[0])
	}
	if e := shelf.Check(many, 1, 1, 0); e != api.OK {
		t.Errorf("Check = %d", e)
	}
}
