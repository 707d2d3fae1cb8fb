package precedence_test

import (
	"fmt"
	"math/rand"
	"slices"
	"testing"

	"gangsaw/api"
	"gangsaw/bench"
	"gangsaw/precedence"
	"gangsaw/support"
)

func block(name string, x, y, z, x2, y2, z2 int) api.Block {
	return api.Block{Name: name, Box: api.Box{Min: api.Vec{X: x, Y: y, Z: z}, Max: api.Vec{X: x2, Y: y2, Z: z2}}}
}

// site is that of the examples of chapter 18, with the joint.
func site() api.Site {
	return api.Site{
		Survey: api.Survey{
			Pit: api.Box{Max: api.Vec{X: 100, Y: 100, Z: 40}}, Open: [4]bool{true}, Beds: []api.Bed{{Name: "k", Z: 0}, {Name: "l", Z: 20}},
			Joints: []api.Joint{{Name: "j", Axis: api.AxisX, At: 50, Lo: 0, Hi: 40}},
		},
		Benches: []api.Bench{{Name: "low", Lo: 0, Hi: 20}, {Name: "high", Lo: 20, Hi: 40}},
		Blocks:  []api.Block{block("a", 50, 0, 20, 100, 100, 40), block("b", 50, 0, 0, 100, 100, 20), block("c", 0, 0, 0, 50, 100, 20)},
		Density: 2700,
	}
}

// P20.4
func TestMust(t *testing.T) {
	s := site()
	for _, c := range []struct {
		taken []string
		block string
		want  []string
		e     api.Errno
	}{
		{nil, "b", []string{"a"}, api.OK},
		{nil, "a", nil, api.OK},
		{[]string{"a"}, "b", nil, api.OK},
		{nil, "c", nil, api.ErrConflict},
		{[]string{"a"}, "a", nil, api.ErrState},
		{[]string{"c", "a"}, "c", nil, api.ErrState},
		{nil, "d", nil, api.ErrUnknown},
		{nil, "", nil, api.ErrUnknown},
		{[]string{"x", "a", "a"}, "d", nil, api.ErrUnknown},
		{[]string{"a", "a"}, "d", nil, api.ErrDuplicate},
	} {
		if got, e := precedence.Must(s, c.taken, c.block); !slices.Equal(got, c.want) || e != c.e {
			t.Errorf("Must(%v, %q) = %v, %d", c.taken, c.block, got, e)
		}
	}
	bad := site()
	bad.Density = 0
	if got, e := precedence.Must(bad, []string{"x"}, "x"); got != nil || e != api.ErrRange {
		t.Errorf("Must of a bad site: %v, %d", got, e)
	}
}

// P20.4
func TestOf(t *testing.T) {
	s := site()
	for _, c := range []struct {
		taken []string
		want  [][2]int
		e     api.Errno
	}{
		{nil, [][2]int{{0, 1}}, api.OK}, {[]string{"a"}, nil, api.OK}, {[]string{"b"}, nil, api.OK},
		{[]string{"x", "a", "a"}, nil, api.ErrUnknown}, {[]string{"a", "a"}, nil, api.ErrDuplicate},
	} {
		count := 3
		if c.e != api.OK {
			count = 0
		}
		if got, e := precedence.Of(s, c.taken); got.Count != count || !slices.Equal(got.Edges, c.want) || e != c.e {
			t.Errorf("Of(%v) = %v, %d", c.taken, got, e)
		}
	}
	if got, e := precedence.Of(api.Site{}, nil); got.Count != 0 || got.Edges != nil || e != api.ErrInvalid {
		t.Errorf("Of a bad site: %v, %d", got, e)
	}
}

func randomSite(r *rand.Rand) api.Site {
	s := api.Site{
		Survey:  api.Survey{Pit: api.Box{Max: api.Vec{X: 6, Y: 6, Z: 6}}, Open: [4]bool{true, r.Intn(2) > 0, r.Intn(2) > 0, true}, Beds: []api.Bed{{Name: "k", Z: 0}, {Name: "l", Z: 2}, {Name: "m", Z: 4}}},
		Benches: []api.Bench{{Name: "x", Lo: 0, Hi: 2}, {Name: "y", Lo: 2, Hi: 4}, {Name: "z", Lo: 4, Hi: 6}},
		Safety:  api.Safety{Batter: 500 * r.Intn(3)},
		Density: 1,
	}
	for i := range r.Intn(6) {
		lo := 2 * r.Intn(3)
		s.Survey.Joints = append(s.Survey.Joints, api.Joint{Name: fmt.Sprintf("j%d", i), Axis: r.Intn(2), At: 2 * r.Intn(4), Lo: lo, Hi: 6})
	}
	for i := range 20 {
		x, y, z := 2*r.Intn(3), 2*r.Intn(3), 2*r.Intn(3)
		s.Blocks = append(s.Blocks, block(fmt.Sprintf("b%02d", i), x, y, z, min(6, x+2*(1+r.Intn(2))), min(6, y+2*(1+r.Intn(2))), z+2))
		if bench.Check(s) != api.OK {
			s.Blocks = s.Blocks[:len(s.Blocks)-1]
		}
	}
	return s
}

// greatest is the definition of the greatest set without a block.
func greatest(s api.Site, taken []string, without string) []string {
	set := slices.Clone(taken)
	for {
		front, _ := support.Frontier(s, set)
		front = slices.DeleteFunc(front, func(name string) bool { return name == without })
		if len(front) == 0 {
			return set
		}
		set = append(set, front[0])
	}
}

// P20.4, P20.5
func TestMustAgainstDefinition(t *testing.T) {
	r := rand.New(rand.NewSource(2))
	edges := 0
	for range 150 {
		s := randomSite(r)
		var taken []string
		for range r.Intn(3) {
			if front, _ := support.Frontier(s, taken); len(front) > 0 {
				taken = append(taken, front[r.Intn(len(front))])
			}
		}
		all := greatest(s, taken, "")
		var want [][2]int
		for i, b := range s.Blocks {
			without := greatest(s, taken, b.Name)
			for k, later := range s.Blocks {
				if k != i && !slices.Contains(taken, b.Name) && slices.Contains(all, later.Name) && !slices.Contains(without, later.Name) {
					want = append(want, [2]int{i, k})
				}
			}
		}
		edges += len(want)
		g, e := precedence.Of(s, taken)
		if g.Count != len(s.Blocks) || !slices.Equal(g.Edges, want) || e != api.OK {
			t.Fatalf("%v: Of(%v) = %v, %d, want %v", s, taken, g, e, want)
		}
		if _, e := precedence.Order(g); e != api.OK {
			t.Fatalf("%v: Of(%v) has a cycle", s, taken)
		}
		front, _ := support.Frontier(s, taken)
		for k, b := range s.Blocks {
			checkMust(t, s, taken, b.Name, k, all, want)
			if must, _ := precedence.Must(s, taken, b.Name); slices.Contains(front, b.Name) && len(must) > 0 {
				t.Fatalf("%v: Must(%v, %q) = %v, which is in the frontier", s, taken, b.Name, must)
			}
		}
		checkRun(t, r, s, taken, g)
	}
	if edges < 500 {
		t.Errorf("only %d edges", edges)
	}
}

func checkMust(t *testing.T, s api.Site, taken []string, name string, k int, all []string, edges [][2]int) {
	t.Helper()
	var want []string
	code := api.OK
	for _, x := range edges {
		if x[1] == k {
			want = append(want, s.Blocks[x[0]].Name)
		}
	}
	switch {
	case slices.Contains(taken, name):
		code = api.ErrState
	case !slices.Contains(all, name):
		code = api.ErrConflict
	}
	if got, e := precedence.Must(s, taken, name); !slices.Equal(got, want) || e != code {
		t.Fatalf("%v: Must(%v, %q) = %v, %d, want %v, %d", s, taken, name, got, e, want, code)
	}
}

// checkRun frees blocks at random: what must be taken before a block stands before it.
func checkRun(t *testing.T, r *rand.Rand, s api.Site, taken []string, g precedence.Graph) {
	t.Helper()
	run := slices.Clone(taken)
	for {
		front, _ := support.Frontier(s, run)
		if len(front) == 0 {
			return
		}
		next := front[r.Intn(len(front))]
		for _, x := range g.Edges {
			if s.Blocks[x[1]].Name == next && !slices.Contains(run, s.Blocks[x[0]].Name) {
				t.Fatalf("%v: %q was freed behind %v", s, next, run)
			}
		}
		run = append(run, next)
	}
}

// P1: as many blocks as are allowed, each of which waits for the one before it.
func TestManyBlocks(t *testing.T) {
	s := api.Site{Survey: api.Survey{Pit: api.Box{Max: api.Vec{X: 256, Y: 1, Z: 1}}, Open: [4]bool{true, false, true}, Beds: []api.Bed{{Name: "k", Z: 0}}}, Benches: []api.Bench{{Name: "x", Lo: 0, Hi: 1}}, Density: 1}
	for i := range 256 {
		s.Blocks = append(s.Blocks, block(fmt.Sprintf("b%03d", i), i, 0, 0, i+1, 1, 1))
	}
	g, e := precedence.Of(s, nil)
	if len(g.Edges) != 256*255/2 || e != api.OK {
		t.Errorf("Of has %d edges, %d", len(g.Edges), e)
	}
	if got, e := precedence.Must(s, nil, "b000"); len(got) != 255 || e != api.OK {
		t.Errorf("Must = %v, %d", got, e)
	}
}
