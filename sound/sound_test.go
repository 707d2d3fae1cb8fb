package sound_test

import (
	"cmp"
	"math"
	"math/rand"
	"slices"
	"strconv"
	"testing"

	"gangsaw/api"
	"gangsaw/model"
	"gangsaw/prism"
	"gangsaw/sound"
	"gangsaw/survey"
)

const top = api.MaxCoord

func v(x, y, z int) api.Vec { return api.Vec{X: x, Y: y, Z: z} }

func bx(x, y, z, x2, y2, z2 int) api.Box { return api.Box{Min: v(x, y, z), Max: v(x2, y2, z2)} }

func ev(source string, state int, b api.Box) api.Evidence {
	return api.Evidence{Source: source, Box: b, State: state}
}

func flaw(name string, lo, hi int, c ...int) api.Flaw {
	f := api.Flaw{Name: name, Prism: api.Prism{Lo: lo, Hi: hi}}
	for i := 0; i < len(c); i += 2 {
		f.Prism.Base = append(f.Prism.Base, api.Point{X: c[i], Y: c[i+1]})
	}
	return f
}

// example is the survey and the evidence of the chapter's examples.
func example() (api.Survey, []api.Evidence) {
	s := api.Survey{
		Pit:   bx(0, 0, 0, 10, 10, 10),
		Beds:  []api.Bed{{Name: "b", Z: 4}},
		Flaws: []api.Flaw{flaw("f", 0, 10, 8, 0, 10, 0, 10, 2)},
	}
	return s, []api.Evidence{ev("a", api.Sound, bx(0, 0, 0, 10, 10, 8))}
}

// rich has several witnesses of each kind in its pit.
func rich() (api.Survey, []api.Evidence) {
	s := api.Survey{
		Pit:  bx(-10, -10, -10, 10, 10, 10),
		Beds: []api.Bed{{Name: "z1", Z: -10}, {Name: "m1", Z: -4}, {Name: "a1", Z: 3}},
		Joints: []api.Joint{
			{Name: "a2", Axis: api.AxisY, At: 2, Lo: -10, Hi: 10}, {Name: "b2", Axis: api.AxisX, At: 5, Lo: -10, Hi: 0},
			{Name: "c2", Axis: api.AxisX, At: 5, Lo: 4, Hi: 6}, {Name: "d2", Axis: api.AxisX, At: -7, Lo: -10, Hi: 10},
		},
		Flaws: []api.Flaw{flaw("p", -10, 0, -10, -10, -8, -10, -10, -8), flaw("q", -2, 2, 8, 8, 10, 8, 10, 10, 8, 10)},
	}
	return s, []api.Evidence{ev("all", api.Sound, bx(-10, -10, -10, 10, 10, 9)), ev("x", api.Flawed, bx(0, 0, 8, 1, 1, 10)), ev("y", api.Flawed, bx(0, 5, -1, 1, 6, 0))}
}

// P16.1: the examples, and which witness comes first.
func TestFind(t *testing.T) {
	s, list := example()
	s2, list2 := rich()
	for _, c := range []struct {
		s    api.Survey
		list []api.Evidence
		b    api.Box
		want sound.Witness
	}{
		{s, list, bx(0, 0, 0, 5, 5, 4), sound.Witness{}},
		{s, list, bx(0, 0, 0, 5, 5, 5), sound.Witness{Kind: sound.Bed, Name: "b"}},
		{s, list, bx(0, 0, 4, 5, 5, 9), sound.Witness{Kind: sound.Cell, Cell: v(0, 0, 8)}},
		{s, list, bx(0, 0, 0, 5, 5, 9), sound.Witness{Kind: sound.Cell, Cell: v(0, 0, 8)}},
		{s, list, bx(5, 0, 0, 10, 5, 4), sound.Witness{Kind: sound.Flaw, Name: "f"}},
		{s, list, bx(5, 0, 0, 10, 5, 5), sound.Witness{Kind: sound.Flaw, Name: "f"}},
		{s, list, bx(5, 0, 0, 8, 5, 4), sound.Witness{}},
		{s, list, bx(5, 2, 4, 10, 5, 8), sound.Witness{}},
		{s, list, bx(5, 0, 0, 11, 5, 4), sound.Witness{Kind: sound.Beyond}},
		{s, list, bx(-1, 0, 0, 1, 1, 1), sound.Witness{Kind: sound.Beyond}},
		{s, list, bx(20, 20, 20, 30, 30, 30), sound.Witness{Kind: sound.Beyond}},
		{s, nil, bx(1, 2, 3, 5, 5, 5), sound.Witness{Kind: sound.Cell, Cell: v(1, 2, 3)}},
		{s2, list2, bx(-10, -10, -10, 10, 10, 10), sound.Witness{Kind: sound.Cell, Cell: v(0, 5, -1), State: api.Clash}},
		{s2, list2, bx(-1, -1, 8, 3, 3, 10), sound.Witness{Kind: sound.Cell, Cell: v(0, 0, 8), State: api.Clash}},
		{s2, list2, bx(0, 0, 9, 3, 3, 10), sound.Witness{Kind: sound.Cell, Cell: v(0, 0, 9), State: api.Flawed}},
		{s2, list2, bx(-1, 0, 9, 3, 3, 10), sound.Witness{Kind: sound.Cell, Cell: v(-1, 0, 9), State: api.Unseen}},
		{s2, list2, bx(-10, -10, -10, 10, 5, 8), sound.Witness{Kind: sound.Flaw, Name: "p"}},
		{s2, list2, bx(2, -10, -10, 10, 10, 8), sound.Witness{Kind: sound.Flaw, Name: "q"}},
		{s2, list2, bx(1, -10, -10, 8, 10, 8), sound.Witness{Kind: sound.Bed, Name: "a1"}},
		{s2, list2, bx(1, -10, -10, 8, 10, 3), sound.Witness{Kind: sound.Bed, Name: "m1"}},
		{s2, list2, bx(1, -10, -4, 8, 10, 3), sound.Witness{Kind: sound.Joint, Name: "a2"}},
		{s2, list2, bx(1, 2, -4, 8, 8, 3), sound.Witness{Kind: sound.Joint, Name: "b2"}},
		{s2, list2, bx(1, 2, 3, 8, 8, 7), sound.Witness{Kind: sound.Joint, Name: "c2"}},
		{s2, list2, bx(1, 2, 0, 8, 8, 3), sound.Witness{}},
	} {
		got, e := sound.Find(c.s, c.list, c.b)
		if got != c.want || e != api.OK {
			t.Errorf("Find(%v) = %v, %d, want %v", c.b, got, e, c.want)
		}
		if is, e := sound.Is(c.s, c.list, c.b); is != (c.want == sound.Witness{}) || e != api.OK {
			t.Errorf("Is(%v) = %v, %d", c.b, is, e)
		}
		if !sound.Verify(c.s, c.list, c.b, c.want) {
			t.Errorf("Verify(%v, %v) is false", c.b, c.want)
		}
	}
}

// P16.2
func TestVerify(t *testing.T) {
	s, list := rich()
	whole := s.Pit
	clear := bx(1, 2, 0, 8, 8, 3)
	for _, c := range []struct {
		b    api.Box
		w    sound.Witness
		want bool
	}{
		{whole, sound.Witness{Kind: sound.Flaw, Name: "p"}, true},
		{whole, sound.Witness{Kind: sound.Flaw, Name: "q"}, true},
		{whole, sound.Witness{Kind: sound.Bed, Name: "m1"}, true},
		{whole, sound.Witness{Kind: sound.Bed, Name: "a1"}, true},
		{whole, sound.Witness{Kind: sound.Joint, Name: "d2"}, true},
		{whole, sound.Witness{Kind: sound.Cell, Cell: v(0, 0, 8), State: api.Clash}, true},
		{whole, sound.Witness{Kind: sound.Cell, Cell: v(0, 0, 9), State: api.Flawed}, true},
		{whole, sound.Witness{Kind: sound.Cell, Cell: v(9, 9, 9), State: api.Unseen}, true},
		{whole, sound.Witness{}, false},
		{whole, sound.Witness{Kind: sound.Beyond}, false},
		{whole, sound.Witness{Kind: sound.Flaw}, false},
		{whole, sound.Witness{Kind: sound.Flaw, Name: "m1"}, false},
		{whole, sound.Witness{Kind: sound.Bed, Name: "z1"}, false},
		{whole, sound.Witness{Kind: sound.Bed, Name: "d2"}, false},
		{whole, sound.Witness{Kind: sound.Joint, Name: "m1"}, false},
		{whole, sound.Witness{Kind: sound.Joint, Name: "p"}, false},
		{whole, sound.Witness{Kind: sound.Flaw, Name: "p", State: 1}, false},
		{whole, sound.Witness{Kind: sound.Bed, Name: "m1", Cell: v(0, 0, 1)}, false},
		{whole, sound.Witness{Kind: 6, Name: "p"}, false},
		{whole, sound.Witness{Kind: -1}, false},
		{whole, sound.Witness{Kind: sound.Cell, Cell: v(0, 0, 8), State: api.Flawed}, false},
		{whole, sound.Witness{Kind: sound.Cell, Cell: v(0, 0, 0), State: api.Sound}, false},
		{whole, sound.Witness{Kind: sound.Cell, Cell: v(0, 0, 0)}, false},
		{whole, sound.Witness{Kind: sound.Cell, Name: "x", Cell: v(0, 0, 8), State: api.Clash}, false},
		{whole, sound.Witness{Kind: sound.Cell, Cell: v(20, 0, 0)}, false},
		{whole, sound.Witness{Kind: sound.Cell, Cell: v(math.MaxInt, 0, 0)}, false},
		{clear, sound.Witness{}, true},
		{clear, sound.Witness{Cell: v(1, 0, 0)}, false},
		{clear, sound.Witness{State: 1}, false},
		{clear, sound.Witness{Name: "p"}, false},
		{clear, sound.Witness{Kind: sound.Cell, Cell: v(9, 9, 9), State: api.Unseen}, false},
		{clear, sound.Witness{Kind: sound.Flaw, Name: "p"}, false},
		{bx(0, 0, 0, 1, 1, 11), sound.Witness{Kind: sound.Beyond}, true},
		{bx(0, 0, 0, 1, 1, 11), sound.Witness{Kind: sound.Beyond, State: 1}, false},
		{bx(0, 0, 0, 1, 1, 11), sound.Witness{Kind: sound.Beyond, Name: "p"}, false},
		{bx(0, 0, 0, 1, 1, 11), sound.Witness{}, false},
		{bx(0, 0, 0, 1, 1, 11), sound.Witness{Kind: sound.Cell, Cell: v(0, 0, 9), State: api.Flawed}, false},
		{bx(0, 0, 0, 1, 1, 11), sound.Witness{Kind: sound.Bed, Name: "a1"}, false},
		{bx(0, 0, 0, 0, 1, 1), sound.Witness{}, false},
		{bx(0, 0, 0, top+1, 1, 1), sound.Witness{Kind: sound.Beyond}, false},
	} {
		if got := sound.Verify(s, list, c.b, c.w); got != c.want {
			t.Errorf("Verify(%v, %v) = %v", c.b, c.w, got)
		}
	}
	bad := append(slices.Clone(list), ev("", 1, clear))
	if sound.Verify(s, bad, clear, sound.Witness{}) || sound.Verify(api.Survey{}, list, clear, sound.Witness{Kind: sound.Beyond}) {
		t.Error("Verify accepts evidence or a survey that is not valid")
	}
}

// P16.3
func TestRange(t *testing.T) {
	s, list := example()
	s2, list2 := rich()
	for _, c := range []struct {
		s    api.Survey
		list []api.Evidence
		b    api.Box
		axis int
		want api.Interval
		e    api.Errno
	}{
		{s, list, bx(5, 0, 0, 10, 5, 4), api.AxisX, api.Interval{Lo: 5, Hi: 7}, api.OK},
		{s, list, bx(5, 0, 0, 10, 5, 4), api.AxisY, api.Interval{}, api.ErrNone},
		{s, list, bx(5, 0, 0, 8, 5, 10), api.AxisZ, api.Interval{Lo: 0, Hi: 3}, api.OK},
		{s, list, bx(5, 0, 4, 8, 5, 10), api.AxisZ, api.Interval{Lo: 4, Hi: 7}, api.OK},
		{s, list, bx(5, 0, 8, 8, 5, 10), api.AxisZ, api.Interval{}, api.ErrNone},
		{s, list, bx(3, 3, 0, 4, 4, 1), api.AxisZ, api.Interval{Lo: 0, Hi: 0}, api.OK},
		{s, list, bx(0, 3, 0, 10, 4, 4), api.AxisX, api.Interval{Lo: 0, Hi: 9}, api.OK},
		{s2, list2, bx(-6, -9, -4, 6, 9, 3), api.AxisY, api.Interval{}, api.ErrNone},
		{s2, list2, bx(-6, -9, -4, 4, 9, 3), api.AxisY, api.Interval{Lo: -9, Hi: 1}, api.OK},
		{s2, list2, bx(-6, 2, -4, 4, 9, 3), api.AxisY, api.Interval{Lo: 2, Hi: 4}, api.OK},
		{s2, list2, bx(-10, -5, 4, 10, -4, 5), api.AxisX, api.Interval{Lo: -10, Hi: -8}, api.OK},
	} {
		if got, e := sound.Range(c.s, c.list, c.b, c.axis); got != c.want || e != c.e {
			t.Errorf("Range(%v, %d) = %v, %d, want %v", c.b, c.axis, got, e, c.want)
		}
	}
}

// P16.4
func TestUnseenAndPieces(t *testing.T) {
	s, list := example()
	for _, c := range []struct {
		b      api.Box
		unseen int64
		pieces []api.Box
		e      api.Errno
	}{
		{bx(0, 0, 0, 5, 5, 8), 0, []api.Box{bx(0, 0, 0, 5, 5, 4), bx(0, 0, 4, 5, 5, 8)}, api.OK},
		{bx(0, 0, 0, 5, 5, 9), 25, []api.Box{bx(0, 0, 0, 5, 5, 4)}, api.OK},
		{bx(0, 0, 0, 10, 10, 10), 200, nil, api.OK},
		{bx(0, 0, 9, 1, 1, 10), 1, nil, api.OK},
		{bx(0, 0, 0, 5, 5, 4), 0, []api.Box{bx(0, 0, 0, 5, 5, 4)}, api.OK},
		{bx(9, 9, 7, 12, 12, 12), 3*3*5 - 1, nil, api.ErrOutside},
	} {
		if n, e := sound.Unseen(s, list, c.b); n != c.unseen || e != api.OK {
			t.Errorf("Unseen(%v) = %d, %d", c.b, n, e)
		}
		if got, e := sound.Pieces(s, list, c.b); !slices.Equal(got, c.pieces) || e != c.e {
			t.Errorf("Pieces(%v) = %v, %d", c.b, got, e)
		}
	}
	s, list = rich()
	want := []api.Box{bx(-5, 0, -5, 5, 2, -4), bx(5, 0, -5, 7, 2, -4), bx(-5, 2, -5, 5, 3, -4), bx(5, 2, -5, 7, 3, -4), bx(-5, 0, -4, 5, 2, 1), bx(5, 0, -4, 7, 2, 1), bx(-5, 2, -4, 5, 3, 1), bx(5, 2, -4, 7, 3, 1)}
	// The joint at 5 divides the whole box, although it ends at 0.
	if got, e := sound.Pieces(s, list, bx(-5, 0, -5, 7, 3, 1)); !slices.Equal(got, want) || e != api.OK {
		t.Errorf("Pieces = %v, %d", got, e)
	}
}

const side = 6

func randomEnds(r *rand.Rand) (int, int) {
	lo := r.Intn(side)
	return lo, lo + 1 + r.Intn(side-lo)
}

func randomBox(r *rand.Rand) api.Box {
	x, x2 := randomEnds(r)
	y, y2 := randomEnds(r)
	z, z2 := randomEnds(r)
	return bx(x, y, z, x2, y2, z2)
}

// randomSite returns a survey with a pit of a few cells, and evidence that fills much of it.
func randomSite(r *rand.Rand) (api.Survey, []api.Evidence) {
	s := api.Survey{Pit: bx(0, 0, 0, side, side, side)}
	names := r.Perm(9)
	next := func() string { n := names[0]; names = names[1:]; return "n" + strconv.Itoa(n) }
	for _, z := range r.Perm(side + 1)[:r.Intn(3)] {
		s.Beds = append(s.Beds, api.Bed{Name: next(), Z: z})
	}
	for range r.Intn(4) {
		lo, hi := randomEnds(r)
		s.Joints = append(s.Joints, api.Joint{Name: next(), Axis: r.Intn(2), At: r.Intn(side + 1), Lo: lo, Hi: hi})
	}
	for range r.Intn(3) {
		lo, hi := randomEnds(r)
		x, y, d := r.Intn(side-1), r.Intn(side-1), 1+r.Intn(2)
		f := flaw(next(), lo, hi, x, y, x+d, y, x, y+d)
		for i := range f.Prism.Base {
			f.Prism.Base[i].X, f.Prism.Base[i].Y = min(f.Prism.Base[i].X, side), min(f.Prism.Base[i].Y, side)
		}
		s.Flaws = append(s.Flaws, f)
	}
	slices.SortFunc(s.Beds, func(a, b api.Bed) int { return a.Z - b.Z })
	slices.SortFunc(s.Joints, func(a, b api.Joint) int { return cmp.Compare(a.Name, b.Name) })
	slices.SortFunc(s.Flaws, func(a, b api.Flaw) int { return cmp.Compare(a.Name, b.Name) })
	list := []api.Evidence{ev("most", api.Sound, bx(0, 0, 0, side, side, side-r.Intn(3)))}
	for range r.Intn(3) {
		b := randomBox(r)
		b.Max = v(min(b.Max.X, b.Min.X+2), min(b.Max.Y, b.Min.Y+2), min(b.Max.Z, b.Min.Z+2))
		list = append(list, ev("some", api.Flawed, b))
	}
	return s, list
}

// witnesses returns all witnesses of a box inside the pit in their order, by definition.
func witnesses(s api.Survey, list []api.Evidence, b api.Box) []sound.Witness {
	var all []sound.Witness
	for z := b.Min.Z; z < b.Max.Z; z++ {
		for y := b.Min.Y; y < b.Max.Y; y++ {
			for x := b.Min.X; x < b.Max.X; x++ {
				if state, _ := model.State(list, v(x, y, z)); state != api.Sound {
					all = append(all, sound.Witness{Kind: sound.Cell, Cell: v(x, y, z), State: state})
				}
			}
		}
	}
	for _, f := range s.Flaws {
		if overlaps, _ := prism.Overlaps(f.Prism, b); overlaps {
			all = append(all, sound.Witness{Kind: sound.Flaw, Name: f.Name})
		}
	}
	var beds, joints []string
	for _, x := range s.Beds {
		if b.Min.Z < x.Z && x.Z < b.Max.Z {
			beds = append(beds, x.Name)
		}
	}
	for _, j := range s.Joints {
		lo, hi := b.Min.X, b.Max.X
		if j.Axis == api.AxisY {
			lo, hi = b.Min.Y, b.Max.Y
		}
		if lo < j.At && j.At < hi && max(j.Lo, b.Min.Z) < min(j.Hi, b.Max.Z) {
			joints = append(joints, j.Name)
		}
	}
	for _, name := range slices.Sorted(slices.Values(beds)) {
		all = append(all, sound.Witness{Kind: sound.Bed, Name: name})
	}
	for _, name := range slices.Sorted(slices.Values(joints)) {
		all = append(all, sound.Witness{Kind: sound.Joint, Name: name})
	}
	return all
}

func isSound(s api.Survey, list []api.Evidence, b api.Box) bool {
	return len(witnesses(s, list, b)) == 0
}

func end(b *api.Box, axis int) (int, *int) {
	switch axis {
	case api.AxisX:
		return b.Min.X, &b.Max.X
	case api.AxisY:
		return b.Min.Y, &b.Max.Y
	}
	return b.Min.Z, &b.Max.Z
}

// P16.1 to P16.5
func TestAgainstDefinitions(t *testing.T) {
	r := rand.New(rand.NewSource(1))
	sounds := 0
	for range 4000 {
		s, list := randomSite(r)
		if e := survey.Check(s); e != api.OK {
			continue
		}
		b := randomBox(r)
		all := witnesses(s, list, b)
		w, e := sound.Find(s, list, b)
		if e != api.OK || len(all) == 0 && w != (sound.Witness{}) || len(all) > 0 && w != all[0] {
			t.Fatalf("%v, %v: Find(%v) = %v, %d, want the first of %v", s, list, b, w, e, all)
		}
		for _, w := range all {
			if !sound.Verify(s, list, b, w) {
				t.Fatalf("%v, %v: Verify(%v, %v)", s, list, b, w)
			}
		}
		is, e := sound.Is(s, list, b)
		if is != (len(all) == 0) || sound.Verify(s, list, b, sound.Witness{}) != is || e != api.OK {
			t.Fatalf("%v, %v: Is(%v) = %v, %d", s, list, b, is, e)
		}
		if is {
			sounds++
			checkSoundBox(t, s, list, b)
		}
		checkRanges(t, s, list, b)
		checkPieces(t, s, list, b)
	}
	if sounds < 200 {
		t.Errorf("only %d boxes were sound", sounds)
	}
}

// checkSoundBox checks what follows from soundness.
func checkSoundBox(t *testing.T, s api.Survey, list []api.Evidence, b api.Box) {
	t.Helper()
	if n, e := sound.Unseen(s, list, b); n != 0 || e != api.OK {
		t.Fatalf("%v, %v: Unseen(%v) = %d, %d", s, list, b, n, e)
	}
	if pieces, e := sound.Pieces(s, list, b); !slices.Equal(pieces, []api.Box{b}) || e != api.OK {
		t.Fatalf("%v, %v: Pieces(%v) = %v, %d", s, list, b, pieces, e)
	}
}

func checkRanges(t *testing.T, s api.Survey, list []api.Evidence, b api.Box) {
	t.Helper()
	for axis := range 3 {
		part := b
		lo, hi := end(&part, axis)
		for *hi > lo && !isSound(s, list, part) {
			*hi--
		}
		want, code := api.Interval{Lo: lo, Hi: *hi - 1}, api.OK
		if *hi == lo {
			want, code = api.Interval{}, api.ErrNone
		}
		if got, e := sound.Range(s, list, b, axis); got != want || e != code {
			t.Fatalf("%v, %v: Range(%v, %d) = %v, %d, want %v", s, list, b, axis, got, e, want)
		}
	}
}

func checkPieces(t *testing.T, s api.Survey, list []api.Evidence, b api.Box) {
	t.Helper()
	cuts := [3][]int{{b.Min.X, b.Max.X}, {b.Min.Y, b.Max.Y}, {b.Min.Z, b.Max.Z}}
	for _, w := range witnesses(s, list, b) {
		for _, x := range s.Beds {
			if w.Kind == sound.Bed && x.Name == w.Name {
				cuts[2] = append(cuts[2], x.Z)
			}
		}
		for _, j := range s.Joints {
			if w.Kind == sound.Joint && j.Name == w.Name {
				cuts[j.Axis] = append(cuts[j.Axis], j.At)
			}
		}
	}
	for i := range cuts {
		slices.Sort(cuts[i])
		cuts[i] = slices.Compact(cuts[i])
	}
	var want []api.Box
	for z := range len(cuts[2]) - 1 {
		for y := range len(cuts[1]) - 1 {
			for x := range len(cuts[0]) - 1 {
				if part := bx(cuts[0][x], cuts[1][y], cuts[2][z], cuts[0][x+1], cuts[1][y+1], cuts[2][z+1]); isSound(s, list, part) {
					want = append(want, part)
				}
			}
		}
	}
	if got, e := sound.Pieces(s, list, b); !slices.Equal(got, want) || e != api.OK {
		t.Fatalf("%v, %v: Pieces(%v) = %v, %d, want %v", s, list, b, got, e, want)
	}
}

// P16.5: evidence never makes a box sound that has a flaw.
func TestEvidenceAndFlaws(t *testing.T) {
	s, list := example()
	b := bx(5, 0, 0, 10, 5, 4)
	list = append(list, ev("more", api.Sound, s.Pit))
	if is, e := sound.Is(s, list, b); is || e != api.OK {
		t.Errorf("Is = %v, %d", is, e)
	}
	s.Flaws = nil
	if is, e := sound.Is(s, list, b); !is || e != api.OK {
		t.Errorf("Is without the flaw = %v, %d", is, e)
	}
}

// P1, P16.1: each error, and which one comes first.
func TestErrors(t *testing.T) {
	s, list := example()
	badSurvey := s
	badSurvey.Beds = []api.Bed{{Name: "B", Z: 4}}
	badList := append(slices.Clone(list), ev("x", api.Clash, s.Pit))
	empty, far := bx(5, 5, 5, 5, 6, 6), bx(0, 0, 0, 1, 1, top+1)
	for i, c := range []struct {
		s    api.Survey
		list []api.Evidence
		b    api.Box
		e    api.Errno
	}{
		{badSurvey, badList, empty, api.ErrName},
		{api.Survey{}, badList, empty, api.ErrInvalid},
		{s, make([]api.Evidence, api.MaxEvidence+1), far, api.ErrTooMany},
		{s, badList, far, api.ErrInvalid},
		{s, append(badList, ev("", 1, s.Pit)), far, api.ErrName},
		{s, list, far, api.ErrRange},
		{s, list, empty, api.ErrInvalid},
		{s, nil, bx(math.MinInt, 0, 0, math.MaxInt, 1, 1), api.ErrRange},
	} {
		w, e := sound.Find(c.s, c.list, c.b)
		is, f := sound.Is(c.s, c.list, c.b)
		span, g := sound.Range(c.s, c.list, c.b, 7)
		n, h := sound.Unseen(c.s, c.list, c.b)
		pieces, k := sound.Pieces(c.s, c.list, c.b)
		if got := [5]api.Errno{e, f, g, h, k}; got != [5]api.Errno{c.e, c.e, c.e, c.e, c.e} {
			t.Errorf("refusal %d: %v, want %d", i, got, c.e)
		}
		if w != (sound.Witness{}) || is || span != (api.Interval{}) || n != 0 || pieces != nil {
			t.Errorf("refusal %d: %v, %v, %v, %d, %v", i, w, is, span, n, pieces)
		}
	}
	outside := bx(0, 0, 0, 11, 1, 1)
	for _, axis := range []int{-1, 3, math.MaxInt, math.MinInt} {
		if got, e := sound.Range(s, list, outside, axis); got != (api.Interval{}) || e != api.ErrInvalid {
			t.Errorf("Range along %d: %v, %d", axis, got, e)
		}
	}
	if got, e := sound.Range(s, list, outside, api.AxisX); got != (api.Interval{}) || e != api.ErrOutside {
		t.Errorf("Range outside: %v, %d", got, e)
	}
}

// P1: a great pit with as many beds and joints as are allowed.
func TestCrowd(t *testing.T) {
	s := api.Survey{Pit: bx(-top, -top, -top, top, top, top)}
	for i := range 30 {
		s.Beds = append(s.Beds, api.Bed{Name: "b" + strconv.Itoa(100+i), Z: i})
		s.Joints = append(s.Joints, api.Joint{Name: "j" + strconv.Itoa(100+i), Axis: i % 2, At: i, Lo: -top, Hi: top})
	}
	list := []api.Evidence{ev("a", api.Sound, s.Pit)}
	if pieces, e := sound.Pieces(s, list, s.Pit); len(pieces) != 31*16*16 || e != api.OK {
		t.Errorf("%d pieces, %d", len(pieces), e)
	}
	if got, e := sound.Range(s, list, bx(-top, -top, -top, -top+1, -top+1, top), api.AxisZ); got != (api.Interval{Lo: -top, Hi: -1}) || e != api.OK {
		t.Errorf("Range = %v, %d", got, e)
	}
}
