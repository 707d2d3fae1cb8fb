package cutlist_test

import (
	"strconv"
	"testing"

	"gangsaw/api"
	"gangsaw/cutlist"
)

// P45.1 to P45.4: numbers at their limits, and headings with a single kid.
func TestEdges(t *testing.T) {
	b, _ := cutlist.Load(chapel)
	if s, e := cutlist.Source(b); s != chapel || e != api.OK {
		t.Errorf("Source = %q, %d", s, e)
	}
	source := "building b\nprofile p:\n  corner -1000000 1000000\n  corner -1000000 -1000000\n  corner 1000000 -1000000\n"
	p, f := cutlist.Load(source)
	if got, e := cutlist.Source(p); got != source || e != api.OK || f != (api.Fault{}) {
		t.Errorf("Source = %q, %d, %v", got, e, f)
	}
	for i := range cutlist.MaxProfiles - 1 {
		p.Profiles = append(p.Profiles, api.Profile{Name: "q" + strconv.Itoa(100+i), Outline: p.Profiles[0].Outline})
	}
	if e := cutlist.Check(p); e != api.OK {
		t.Errorf("Check = %d", e)
	}
	great := api.Building{Name: "b"}
	for i := range 8 {
		great.Walls = append(great.Walls, api.Wall{Name: "w" + strconv.Itoa(i), Length: 1000000, Stones: []api.Stone{{Name: "s", Size: api.Vec{X: 1000000, Y: 1000000, Z: 1000000}, Colour: 1000, Bed: 3}}})
	}
	if n, e := cutlist.Volume(great); n != 8000000000000000000 || e != api.OK {
		t.Errorf("Volume = %d, %d", n, e)
	}
	great.Walls = append(great.Walls, api.Wall{Name: "x", Length: 1, Stones: []api.Stone{{Name: "s", Size: api.Vec{X: 1, Y: 1, Z: 1}}}})
	if n, e := cutlist.Volume(great); n != 0 || e != api.ErrRange {
		t.Errorf("Volume = %d, %d", n, e)
	}
}
