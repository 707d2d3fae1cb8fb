package certificate_test

import (
	"slices"
	"testing"

	"gangsaw/api"
	"gangsaw/certificate"
)

// P58.1 to P58.3: numbers at their limits, and releases that differ.
func TestEdges(t *testing.T) {
	c := claim{Kind: certificate.NoOrder, Count: 0}
	if e := certificate.CheckClaim(c); e != api.OK {
		t.Errorf("CheckClaim = %d", e)
	}
	if x, e := certificate.Make(c); e != api.ErrNone {
		t.Errorf("Make = %v, %d", x, e)
	}
	c.Count, c.Pairs = certificate.MaxThings, slices.Repeat([][2]int{{255, 255}}, certificate.MaxEdges)
	if x, e := certificate.Make(c); !slices.Equal(x.Numbers, numbers(255)) || e != api.OK {
		t.Errorf("Make = %v, %d", x, e)
	}
	row := claim{Kind: certificate.NoClose, Lengths: slices.Repeat([]api.Interval{in(1000000, 1000000)}, api.MaxStones), Joint: in(certificate.MaxJoint, certificate.MaxJoint), Room: certificate.MaxRoom}
	if x, e := certificate.Make(row); len(x.Numbers) != api.MaxStones || e != api.OK {
		t.Errorf("Make = %v, %d", x, e)
	}
	row.Lengths, row.Joint, row.Room = []api.Interval{in(1, 1)}, in(0, 0), 0
	if x, e := certificate.Make(row); !slices.Equal(x.Numbers, numbers(1)) || e != api.OK {
		t.Errorf("Make = %v, %d", x, e)
	}
	if e := certificate.Check(certificate.Certificate{Kind: 2, Names: slices.Repeat(names("a"), certificate.MaxNames), Numbers: make([]int64, certificate.MaxNumbers)}); e != api.OK {
		t.Errorf("Check = %d", e)
	}
	// The least release of the jobs with the work counts, whichever job comes first.
	for _, releases := range [][2]int{{3, 20}, {20, 3}} {
		sooner := claims()[certificate.NoSooner]
		sooner.Jobs = jobs()
		sooner.Jobs[0].Release, sooner.Jobs[1].Release = releases[0], releases[1]
		for value, want := range map[int64]bool{73: true, 74: false} {
			sooner.Value = value
			if got := certificate.Proves(sooner, certificate.Certificate{Kind: certificate.NoSooner, Names: names("saw"), Numbers: numbers(2)}); got != want {
				t.Errorf("Proves of %d with the releases %v: %v", value, releases, got)
			}
		}
	}
}
