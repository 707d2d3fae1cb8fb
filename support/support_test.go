package support_test

import (
	"fmt"
	"math"
	"math/rand"
	"slices"
	"testing"

	"gangsaw/api"
	"gangsaw/bench"
	"gangsaw/support"
)

const top = api.MaxCoord

func v(x, y, z int) api.Vec { return api.Vec{X: x, Y: y, Z: z} }

func bx(x, y, z, x2, y2, z2 int) api.Box { return api.Box{Min: v(x, y, z), Max: v(x2, y2, z2)} }

func block(name string, x, y, z, x2, y2, z2 int) api.Block {
	return api.Block{Name: name, Box: bx(x, y, z, x2, y2, z2)}
}

// example is the site of the chapter's examples.
func example() api.Site {
	return api.Site{
		Survey:  api.Survey{Pit: bx(0, 0, 0, 100, 100, 40), Open: [4]bool{true, false, false, false}, Beds: []api.Bed{{Name: "k", Z: 0}, {Name: "l", Z: 20}}},
		Benches: []api.Bench{{Name: "low", Lo: 0, Hi: 20}, {Name: "high", Lo: 20, Hi: 40}},
		Blocks:  []api.Block{block("a", 50, 0, 20, 100, 100, 40), block("b", 50, 0, 0, 100, 100, 20), block("c", 0, 0, 0, 50, 100, 20)},
		Density: 2700,
	}
}

// jointed is the example with the joint at x = 50.
func jointed() api.Site {
	s := example()
	s.Survey.Joints = []api.Joint{{Name: "j", Axis: api.AxisX, At: 50, Lo: 0, Hi: 40}}
	return s
}

// P18.1, P18.6
func TestLeansOn(t *testing.T) {
	blocks := []api.Block{
		block("n", 0, 0, 10, 10, 10, 20), block("m", 0, 0, 0, 5, 5, 10), block("A", 9, 9, 5, 20, 20, 10), block("x", 10, 0, 0, 20, 9, 10), block("y", 0, 5, 0, 5, 6, 9),
		block("t", 3, 3, 20, 4, 4, 21), block("w", -5, -5, 0, 1, 1, 10), block("", 0, 0, 10, 1, 1, 11),
	}
	for _, c := range []struct {
		name           string
		leans, carries []string
	}{
		{"n", []string{"A", "m", "w"}, []string{"t"}}, {"m", nil, []string{"", "n"}}, {"A", nil, []string{"n"}}, {"x", nil, nil},
		{"y", nil, nil}, {"t", []string{"n"}, nil}, {"w", nil, []string{"", "n"}}, {"", []string{"m", "w"}, nil},
	} {
		if got, e := support.LeansOn(blocks, c.name); !slices.Equal(got, c.leans) || e != api.OK {
			t.Errorf("LeansOn(%q) = %v, %d", c.name, got, e)
		}
		if got, e := support.Carries(blocks, c.name); !slices.Equal(got, c.carries) || e != api.OK {
			t.Errorf("Carries(%q) = %v, %d", c.name, got, e)
		}
	}
	s := example()
	if got, e := support.LeansOn(s.Blocks, "a"); !slices.Equal(got, []string{"b"}) || e != api.OK {
		t.Errorf("LeansOn(a) = %v, %d", got, e)
	}
}

// P1, P18.1
func TestLeansOnErrors(t *testing.T) {
	good := block("a", 0, 0, 0, 1, 1, 1)
	empty, far := block("a", 3, 3, 3, 3, 4, 4), block("a", 0, 0, 0, top+1, 1, 1)
	for i, c := range []struct {
		blocks []api.Block
		name   string
		e      api.Errno
	}{
		{make([]api.Block, 257), "a", api.ErrTooMany},
		{[]api.Block{good, empty, far, good}, "b", api.ErrInvalid},
		{[]api.Block{good, far, empty, good}, "b", api.ErrRange},
		{[]api.Block{good, good}, "b", api.ErrDuplicate},
		{[]api.Block{good, block("b", 5, 5, 5, 6, 6, 6), good}, "b", api.ErrDuplicate},
		{[]api.Block{good}, "b", api.ErrUnknown},
		{[]api.Block{good}, "", api.ErrUnknown},
		{nil, "a", api.ErrUnknown},
	} {
		got, e := support.LeansOn(c.blocks, c.name)
		back, f := support.Carries(c.blocks, c.name)
		if got != nil || back != nil || e != c.e || f != c.e {
			t.Errorf("refusal %d: %v, %d, %v, %d", i, got, e, back, f)
		}
	}
	full := make([]api.Block, 256)
	for i := range full {
		full[i] = block(fmt.Sprintf("X %d", 999-i), 0, 0, i, 1, 1, i+1)
	}
	if got, e := support.Carries(full, "X 999"); !slices.Equal(got, []string{"X 998"}) || e != api.OK {
		t.Errorf("Carries = %v, %d", got, e)
	}
}

// P18.2
func TestClear(t *testing.T) {
	low, wide := bx(0, 0, 0, 10, 10, 10), bx(-top, -top, -top, top, top, top)
	for _, c := range []struct {
		s             api.Safety
		taken, stands api.Box
		want          bool
	}{
		{api.Safety{Batter: 1000}, low, bx(15, 0, 5, 20, 10, 10), true},
		{api.Safety{Batter: 1000}, low, bx(15, 0, 6, 20, 10, 10), false},
		{api.Safety{Batter: 999, Width: 1}, low, bx(15, 0, 5, 20, 10, 10), false},
		{api.Safety{Batter: 800, Width: 1}, low, bx(15, 0, 5, 20, 10, 10), true},
		{api.Safety{Batter: 801, Width: 1}, low, bx(15, 0, 5, 20, 10, 10), false},
		{api.Safety{Batter: 10000, Width: top}, low, bx(11, 0, 0, 20, 10, 10), true},
		{api.Safety{Batter: 10000, Width: top}, low, bx(11, 0, -5, 20, 10, 10), true},
		{api.Safety{Batter: 10000, Width: top}, low, bx(11, 0, 1, 20, 10, 10), false},
		{api.Safety{}, low, bx(10, 0, 50, 20, 10, 60), true},
		{api.Safety{Width: 1}, low, bx(10, 0, 50, 20, 10, 60), false},
		{api.Safety{Width: 1}, low, bx(0, 0, 0, 10, 10, 10), true},
		{api.Safety{Width: 1}, low, bx(10, 11, 50, 20, 20, 60), true},
		{api.Safety{Batter: 10000, Width: top}, bx(-top, 0, -top, -top, 0, 0), bx(top, 0, top, top, 0, 0), false},
		{api.Safety{Batter: 500, Width: top}, bx(-top, 0, -top, -top, 0, 0), bx(top, 0, top, top, 0, 0), true},
		{api.Safety{Batter: 501, Width: top}, bx(-top, 0, -top, -top, 0, 0), bx(top, 0, top, top, 0, 0), false},
		{api.Safety{}, wide, bx(9, 9, 9, 3, 3, 3), true},
		{api.Safety{Batter: -1}, low, low, false},
		{api.Safety{Batter: 10001}, low, low, false},
		{api.Safety{Width: -1}, low, low, false},
		{api.Safety{Width: top + 1}, low, low, false},
		{api.Safety{Batter: math.MinInt, Width: math.MaxInt}, low, low, false},
	} {
		if got := support.Clear(c.s, c.taken, c.stands); got != c.want {
			t.Errorf("Clear(%v, %v, %v) = %v", c.s, c.taken, c.stands, got)
		}
	}
	for _, n := range []int{top + 1, -top - 1, math.MaxInt, math.MinInt} {
		for i := range 6 {
			b := low
			*[]*int{&b.Min.X, &b.Min.Y, &b.Min.Z, &b.Max.X, &b.Max.Y, &b.Max.Z}[i] = n
			if support.Clear(api.Safety{}, b, low) || support.Clear(api.Safety{}, low, b) {
				t.Errorf("Clear accepts %v", b)
			}
		}
	}
}

func checkWhy(t *testing.T, s api.Site, taken []string, name string, want support.Reason) {
	t.Helper()
	if got, e := support.Why(s, taken, name); got != want || e != api.OK {
		t.Errorf("Why(%v, %q) = %v, %d, want %v", taken, name, got, e, want)
	}
}

// P18.3: the examples.
func TestExamples(t *testing.T) {
	s := example()
	if got, e := support.Faces(s, nil, "a"); got != [4]bool{true, false, false, false} || e != api.OK {
		t.Errorf("Faces = %v, %d", got, e)
	}
	checkWhy(t, s, nil, "a", support.Reason{Kind: support.Held})
	s = jointed()
	if got, e := support.Faces(s, nil, "a"); got != [4]bool{true, true, false, false} || e != api.OK {
		t.Errorf("Faces = %v, %d", got, e)
	}
	checkWhy(t, s, nil, "a", support.Reason{})
	checkWhy(t, s, []string{"a"}, "a", support.Reason{Kind: support.Gone})
	checkWhy(t, s, nil, "b", support.Reason{Kind: support.Covered, By: "a"})
	checkWhy(t, s, []string{"a"}, "b", support.Reason{})
	checkWhy(t, s, nil, "c", support.Reason{Kind: support.Held})
	checkWhy(t, s, []string{"b", "a"}, "c", support.Reason{Kind: support.Held})
	if got, e := support.Faces(s, nil, "c"); got != [4]bool{true, false, false, false} || e != api.OK {
		t.Errorf("Faces of c = %v, %d", got, e)
	}
	s.Safety.Width = 10
	checkWhy(t, s, nil, "b", support.Reason{Kind: support.Covered, By: "a"})
	s.Blocks = append(s.Blocks, block("d", 0, 0, 20, 50, 100, 40))
	checkWhy(t, s, []string{"a"}, "b", support.Reason{Kind: support.Unsafe, By: "d"})
	checkWhy(t, s, []string{"a", "d"}, "b", support.Reason{})
	s.Survey.Beds = s.Survey.Beds[1:]
	checkWhy(t, s, []string{"a"}, "b", support.Reason{Kind: support.NoBed})
	checkWhy(t, s, nil, "b", support.Reason{Kind: support.Covered, By: "a"})
}

// P18.3: which reason comes first when several apply.
func TestOrderOfReasons(t *testing.T) {
	s := api.Site{
		Survey:  api.Survey{Pit: bx(0, 0, 0, 30, 30, 30)},
		Benches: []api.Bench{{Name: "x", Lo: 0, Hi: 10}, {Name: "y", Lo: 10, Hi: 20}, {Name: "z", Lo: 20, Hi: 30}},
		Blocks:  []api.Block{block("b", 10, 10, 0, 20, 20, 10), block("c", 5, 5, 20, 11, 11, 30), block("d", 10, 10, 10, 11, 11, 20), block("e", 20, 0, 20, 30, 10, 21), block("f", 25, 0, 10, 30, 5, 15)},
		Safety:  api.Safety{Batter: 0, Width: 10},
		Density: 1,
	}
	checkWhy(t, s, []string{"b"}, "b", support.Reason{Kind: support.Gone})
	checkWhy(t, s, nil, "b", support.Reason{Kind: support.Covered, By: "c"})
	checkWhy(t, s, []string{"c"}, "b", support.Reason{Kind: support.Covered, By: "d"})
	checkWhy(t, s, []string{"c", "d"}, "b", support.Reason{Kind: support.NoBed})
	s.Survey.Beds = []api.Bed{{Name: "k", Z: 0}}
	checkWhy(t, s, []string{"c", "d"}, "b", support.Reason{Kind: support.Held})
	s.Survey.Joints = []api.Joint{{Name: "j", Axis: api.AxisX, At: 10, Lo: 0, Hi: 10}, {Name: "l", Axis: api.AxisY, At: 20, Lo: 0, Hi: 10}}
	checkWhy(t, s, []string{"c", "d"}, "b", support.Reason{Kind: support.Unsafe, By: "e"})
	checkWhy(t, s, []string{"c", "d", "e"}, "b", support.Reason{Kind: support.Unsafe, By: "f"})
	checkWhy(t, s, []string{"f", "c", "e", "d"}, "b", support.Reason{})
	s.Survey.Joints[0].Hi = 9
	checkWhy(t, s, []string{"c", "d"}, "b", support.Reason{Kind: support.Held})
}

// P18.3: a side is free if its cells lie in taken blocks or joints, or at an open side of the pit.
func TestFaces(t *testing.T) {
	s := api.Site{
		Survey:  api.Survey{Pit: bx(0, 0, 0, 30, 30, 20), Open: [4]bool{true, false, true, false}},
		Benches: []api.Bench{{Name: "x", Lo: 0, Hi: 20}},
		Blocks: []api.Block{
			block("a", 10, 10, 0, 20, 20, 20), block("b", 20, 10, 0, 30, 20, 12), block("c", 0, 10, 0, 10, 15, 20), block("d", 5, 15, 0, 10, 22, 20),
			block("e", 10, 0, 0, 20, 10, 20), block("f", 0, 0, 0, 9, 9, 20),
		},
		Density: 1,
	}
	check := func(taken []string, name string, want [4]bool) {
		t.Helper()
		if got, e := support.Faces(s, taken, name); got != want || e != api.OK {
			t.Errorf("Faces(%v, %q) = %v, %d", taken, name, got, e)
		}
	}
	check(nil, "a", [4]bool{})
	check([]string{"b"}, "a", [4]bool{})
	check([]string{"c"}, "a", [4]bool{})
	check([]string{"c", "d"}, "a", [4]bool{false, true, false, false})
	check([]string{"c", "d", "e", "b", "f"}, "a", [4]bool{false, true, false, true})
	check([]string{"a"}, "a", [4]bool{})
	check([]string{"a"}, "b", [4]bool{true, true, false, false})
	check([]string{"a"}, "e", [4]bool{false, false, true, false})
	check([]string{"f", "a"}, "e", [4]bool{false, false, true, false})
	s.Survey.Joints = []api.Joint{{Name: "j", Axis: api.AxisX, At: 20, Lo: 12, Hi: 20}, {Name: "k", Axis: api.AxisX, At: 0, Lo: 0, Hi: 20}, {Name: "l", Axis: api.AxisY, At: 20, Lo: 0, Hi: 20}}
	check(nil, "a", [4]bool{false, false, true, false})
	check([]string{"b"}, "a", [4]bool{true, false, true, false})
	check(nil, "c", [4]bool{false, true, false, false})
	check([]string{"d"}, "c", [4]bool{false, true, false, false})
	s.Survey.Joints[0].Lo = 13
	check([]string{"b"}, "a", [4]bool{false, false, true, false})
}

// P18.3
func TestHanging(t *testing.T) {
	s := example()
	s.Survey.Pit.Max.Z = 60
	s.Benches = append(s.Benches, api.Bench{Name: "top", Lo: 40, Hi: 60})
	s.Blocks = []api.Block{
		block("a", 50, 0, 20, 100, 100, 40), block("b", 50, 0, 0, 100, 50, 20), block("c", 50, 50, 0, 100, 100, 20), block("d", 0, 0, 20, 50, 100, 40), block("e", 50, 0, 40, 60, 60, 41), block("f", 0, 0, 0, 49, 100, 20),
	}
	for _, c := range []struct {
		taken []string
		want  string
	}{
		{nil, ""}, {[]string{"b"}, ""}, {[]string{"b", "c"}, "a"}, {[]string{"c", "a", "b"}, "e"}, {[]string{"a"}, "e"}, {[]string{"a", "e"}, ""}, {[]string{"f"}, ""}, {[]string{"a", "b", "c", "d", "e", "f"}, ""},
	} {
		want := api.OK
		if c.want == "" {
			want = api.ErrNone
		}
		if got, e := support.Hanging(s, c.taken); got != c.want || e != want {
			t.Errorf("Hanging(%v) = %q, %d", c.taken, got, e)
		}
	}
}

// P18.3: only the cells that touch a block from below count.
func TestHangingAboveLowBlock(t *testing.T) {
	s := example()
	s.Benches = []api.Bench{{Name: "low", Lo: 5, Hi: 6}, {Name: "high", Lo: 6, Hi: 9}}
	s.Blocks = []api.Block{block("a", 0, 0, 5, 10, 10, 6), block("b", 0, 0, 6, 10, 10, 9)}
	if got, e := support.Hanging(s, []string{"a"}); got != "b" || e != api.OK {
		t.Errorf("Hanging = %q, %d", got, e)
	}
}

// P1, P18.3: each error, and which one comes first.
func TestErrors(t *testing.T) {
	bad := jointed()
	bad.Density = 0
	for i, c := range []struct {
		s     api.Site
		taken []string
		name  string
		e     api.Errno
	}{
		{bad, []string{"x"}, "x", api.ErrRange},
		{api.Site{}, nil, "a", api.ErrInvalid},
		{jointed(), []string{"a", "a", "x"}, "x", api.ErrUnknown},
		{jointed(), []string{""}, "a", api.ErrUnknown},
		{jointed(), []string{"a", "b", "a"}, "x", api.ErrDuplicate},
		{jointed(), make([]string, 1000), "x", api.ErrUnknown},
		{jointed(), []string{"a"}, "low", api.ErrUnknown},
	} {
		faces, e1 := support.Faces(c.s, c.taken, c.name)
		why, e2 := support.Why(c.s, c.taken, c.name)
		if faces != [4]bool{} || why != (support.Reason{}) || e1 != c.e || e2 != c.e {
			t.Errorf("refusal %d: %v, %d, %v, %d", i, faces, e1, why, e2)
		}
		if c.name == "low" {
			continue
		}
		front, e3 := support.Frontier(c.s, c.taken)
		hanging, e4 := support.Hanging(c.s, c.taken)
		if front != nil || hanging != "" || e3 != c.e || e4 != c.e {
			t.Errorf("refusal %d: %v, %d, %q, %d", i, front, e3, hanging, e4)
		}
	}
}

// randomSite returns a site of a small pit that is often taken apart.
func randomSite(r *rand.Rand) api.Site {
	s := api.Site{
		Survey:  api.Survey{Pit: bx(-2, -2, 0, 6, 6, 8), Open: [4]bool{r.Intn(2) > 0, r.Intn(2) > 0, r.Intn(2) > 0, r.Intn(2) > 0}},
		Benches: []api.Bench{{Name: "x", Lo: 0, Hi: 3}, {Name: "y", Lo: 3, Hi: 5}, {Name: "z", Lo: 5, Hi: 8}},
		Safety:  api.Safety{Batter: 500 * r.Intn(3), Width: r.Intn(2)},
		Density: 1,
	}
	for i, z := range []int{0, 3, 5} {
		if r.Intn(8) > 0 {
			s.Survey.Beds = append(s.Survey.Beds, api.Bed{Name: fmt.Sprintf("bed%d", i), Z: z})
		}
	}
	for i := range r.Intn(10) {
		lo := r.Intn(8)
		s.Survey.Joints = append(s.Survey.Joints, api.Joint{Name: fmt.Sprintf("j%d", i), Axis: r.Intn(2), At: 2*r.Intn(5) - 2, Lo: lo, Hi: min(8, lo+1+r.Intn(8))})
	}
	for i := range 40 {
		l := s.Benches[r.Intn(3)]
		x, y := 2*r.Intn(4)-2, 2*r.Intn(4)-2
		hi := l.Hi
		if r.Intn(6) == 0 {
			hi = l.Lo + 1 + r.Intn(l.Hi-l.Lo)
		}
		s.Blocks = append(s.Blocks, block(fmt.Sprintf("b%02d", i), x, y, l.Lo, min(6, x+2*(1+r.Intn(2))), min(6, y+2*(1+r.Intn(3))), hi))
		if bench.Check(s) != api.OK {
			s.Blocks = s.Blocks[:len(s.Blocks)-1]
		}
	}
	return s
}

func has(b api.Box, p api.Vec) bool {
	return b.Min.X <= p.X && p.X < b.Max.X && b.Min.Y <= p.Y && p.Y < b.Max.Y && b.Min.Z <= p.Z && p.Z < b.Max.Z
}

// outside returns the cells outside a side of a box; direction 5 is below.
func outside(b api.Box, direction int) []api.Vec {
	out := b
	switch direction {
	case 0:
		out.Min.X, out.Max.X = b.Max.X, b.Max.X+1
	case 1:
		out.Min.X, out.Max.X = b.Min.X-1, b.Min.X
	case 2:
		out.Min.Y, out.Max.Y = b.Max.Y, b.Max.Y+1
	case 3:
		out.Min.Y, out.Max.Y = b.Min.Y-1, b.Min.Y
	case 5:
		out.Min.Z, out.Max.Z = b.Min.Z-1, b.Min.Z
	}
	var cells []api.Vec
	for z := out.Min.Z; z < out.Max.Z; z++ {
		for y := out.Min.Y; y < out.Max.Y; y++ {
			for x := out.Min.X; x < out.Max.X; x++ {
				cells = append(cells, v(x, y, z))
			}
		}
	}
	return cells
}

func inTaken(s api.Site, taken []string, p api.Vec) bool {
	return slices.ContainsFunc(s.Blocks, func(b api.Block) bool { return slices.Contains(taken, b.Name) && has(b.Box, p) })
}

// isFree is the definition of a free side.
func isFree(s api.Site, taken []string, b api.Box, direction int) bool {
	at := [4]int{b.Max.X, b.Min.X, b.Max.Y, b.Min.Y}[direction]
	pit := s.Survey.Pit
	if s.Survey.Open[direction] && at == [4]int{pit.Max.X, pit.Min.X, pit.Max.Y, pit.Min.Y}[direction] {
		return true
	}
	for _, p := range outside(b, direction) {
		inJoint := slices.ContainsFunc(s.Survey.Joints, func(j api.Joint) bool {
			return j.Axis == direction/2 && j.At == at && j.Lo <= p.Z && p.Z < j.Hi
		})
		if !inJoint && !inTaken(s, taken, p) {
			return false
		}
	}
	return true
}

// why is the definition of why a block cannot be freed.
func why(s api.Site, taken []string, b api.Block) support.Reason {
	if slices.Contains(taken, b.Name) {
		return support.Reason{Kind: support.Gone}
	}
	for _, o := range s.Blocks {
		if !slices.Contains(taken, o.Name) && o.Box.Min.Z >= b.Box.Max.Z && max(o.Box.Min.X, b.Box.Min.X) < min(o.Box.Max.X, b.Box.Max.X) && max(o.Box.Min.Y, b.Box.Min.Y) < min(o.Box.Max.Y, b.Box.Max.Y) {
			return support.Reason{Kind: support.Covered, By: o.Name}
		}
	}
	if !slices.ContainsFunc(s.Survey.Beds, func(x api.Bed) bool { return x.Z == b.Box.Min.Z }) {
		return support.Reason{Kind: support.NoBed}
	}
	free := 0
	for d := range 4 {
		if isFree(s, taken, b.Box, d) {
			free++
		}
	}
	if free < 2 {
		return support.Reason{Kind: support.Held}
	}
	for _, o := range s.Blocks {
		if h := o.Box.Min.Z - b.Box.Min.Z; o.Name != b.Name && !slices.Contains(taken, o.Name) && h > 0 && 1000*bench.Gap(o.Box, b.Box) < s.Safety.Batter*h+1000*s.Safety.Width {
			return support.Reason{Kind: support.Unsafe, By: o.Name}
		}
	}
	return support.Reason{}
}

func hanging(s api.Site, taken []string) string {
	for _, b := range s.Blocks {
		if !slices.Contains(taken, b.Name) && !slices.ContainsFunc(outside(b.Box, 5), func(p api.Vec) bool { return !inTaken(s, taken, p) }) {
			return b.Name
		}
	}
	return ""
}

func randomTaken(r *rand.Rand, s api.Site) []string {
	var taken []string
	chance := r.Intn(4)
	for _, i := range r.Perm(len(s.Blocks)) {
		if r.Intn(4) < chance {
			taken = append(taken, s.Blocks[i].Name)
		}
	}
	return taken
}

// P18.3, P18.6: against the definitions.
func TestAgainstDefinitions(t *testing.T) {
	r := rand.New(rand.NewSource(1))
	kinds := map[int]int{}
	for range 1500 {
		s := randomSite(r)
		taken := randomTaken(r, s)
		var front []string
		for _, b := range s.Blocks {
			want := why(s, taken, b)
			kinds[want.Kind]++
			if got, e := support.Why(s, taken, b.Name); got != want || e != api.OK {
				t.Fatalf("%v: Why(%v, %q) = %v, %d, want %v", s, taken, b.Name, got, e, want)
			}
			faces, e := support.Faces(s, taken, b.Name)
			for d := range 4 {
				if faces[d] != isFree(s, taken, b.Box, d) || e != api.OK {
					t.Fatalf("%v: Faces(%v, %q) = %v, %d", s, taken, b.Name, faces, e)
				}
			}
			if want.Kind == support.Possible {
				front = append(front, b.Name)
			}
		}
		if got, e := support.Frontier(s, taken); !slices.Equal(got, front) || e != api.OK {
			t.Fatalf("%v: Frontier(%v) = %v, %d, want %v", s, taken, got, e, front)
		}
		want := hanging(s, taken)
		if got, e := support.Hanging(s, taken); got != want || (e == api.OK) != (want != "") {
			t.Fatalf("%v: Hanging(%v) = %q, %d, want %q", s, taken, got, e, want)
		}
	}
	for kind := support.Possible; kind <= support.Unsafe; kind++ {
		if kinds[kind] < 100 {
			t.Errorf("the reason %d occurred %d times only", kind, kinds[kind])
		}
	}
}

// P18.4
func TestMonotone(t *testing.T) {
	r := rand.New(rand.NewSource(2))
	for range 400 {
		s := randomSite(r)
		taken := randomTaken(r, s)
		front, _ := support.Frontier(s, taken)
		for _, name := range front {
			more := slices.Clone(taken)
			for _, b := range s.Blocks {
				if b.Name != name && !slices.Contains(more, b.Name) && r.Intn(3) == 0 {
					more = append(more, b.Name)
				}
			}
			if got, e := support.Why(s, more, name); got != (support.Reason{}) || e != api.OK {
				t.Fatalf("%v: %q can be freed behind %v, but not behind %v: %v, %d", s, name, taken, more, got, e)
			}
			before, _ := support.Faces(s, taken, name)
			after, _ := support.Faces(s, more, name)
			for d := range 4 {
				if before[d] && !after[d] {
					t.Fatalf("%v: the side %d of %q is free behind %v, but not behind %v", s, d, name, taken, more)
				}
			}
		}
	}
}

// P18.5
func TestSafe(t *testing.T) {
	r := rand.New(rand.NewSource(3))
	freed := 0
	for range 300 {
		s := randomSite(r)
		var taken []string
		for {
			front, e := support.Frontier(s, taken)
			if e != api.OK {
				t.Fatal(e)
			}
			if len(front) == 0 {
				break
			}
			taken = append(taken, front[r.Intn(len(front))])
			freed++
			if name, e := support.Hanging(s, taken); name != "" || e != api.ErrNone {
				t.Fatalf("%v: %q hangs behind %v", s, name, taken)
			}
			for _, a := range s.Blocks {
				for _, b := range s.Blocks {
					if slices.Contains(taken, a.Name) && !slices.Contains(taken, b.Name) && !support.Clear(s.Safety, a.Box, b.Box) {
						t.Fatalf("%v: %q is not clear of %q behind %v", s, b.Name, a.Name, taken)
					}
				}
			}
		}
	}
	if freed < 1000 {
		t.Errorf("only %d blocks were freed", freed)
	}
}

// P18.6
func TestLeaningAgainstCarrying(t *testing.T) {
	r := rand.New(rand.NewSource(4))
	for range 100 {
		s := randomSite(r)
		for _, a := range s.Blocks {
			on, _ := support.LeansOn(s.Blocks, a.Name)
			for _, b := range s.Blocks {
				carried, _ := support.Carries(s.Blocks, b.Name)
				if slices.Contains(on, b.Name) != slices.Contains(carried, a.Name) {
					t.Fatalf("%v: LeansOn(%q) = %v, Carries(%q) = %v", s, a.Name, on, b.Name, carried)
				}
			}
		}
	}
}

// P1: a pit that reaches the ends of all coordinates, and many blocks.
func TestCrowd(t *testing.T) {
	s := api.Site{Survey: api.Survey{Pit: bx(-top, -top, -top, top, top, top), Open: [4]bool{true, true}, Beds: []api.Bed{{Name: "k", Z: -top}}}, Benches: []api.Bench{{Name: "x", Lo: -top, Hi: top}}, Density: 1}
	for i := range 256 {
		lo, hi := -top+i*2*top/256, -top+(i+1)*2*top/256
		s.Blocks = append(s.Blocks, block(fmt.Sprintf("b%03d", i), lo, -top, -top, hi, top, top))
	}
	if got, e := support.Frontier(s, nil); len(got) != 0 || e != api.OK {
		t.Errorf("Frontier = %v, %d", got, e)
	}
	if got, e := support.Frontier(s, []string{"b001"}); !slices.Equal(got, []string{"b000"}) || e != api.OK {
		t.Errorf("Frontier = %v, %d", got, e)
	}
	if got, e := support.Hanging(s, []string{"b001"}); got != "" || e != api.ErrNone {
		t.Errorf("Hanging = %q, %d", got, e)
	}
}
