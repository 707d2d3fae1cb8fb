package survey_test

import (
	"math"
	"math/rand"
	"slices"
	"strconv"
	"testing"

	"gangsaw/api"
	"gangsaw/survey"
)

const top = api.MaxCoord

func bx(x, y, z, x2, y2, z2 int) api.Box {
	return api.Box{Min: api.Vec{X: x, Y: y, Z: z}, Max: api.Vec{X: x2, Y: y2, Z: z2}}
}

// poly makes a polygon of pairs of coordinates.
func poly(c ...int) api.Polygon {
	var p api.Polygon
	for i := 0; i < len(c); i += 2 {
		p = append(p, api.Point{X: c[i], Y: c[i+1]})
	}
	return p
}

func flaw(name string, lo, hi int, c ...int) api.Flaw {
	return api.Flaw{Name: name, Prism: api.Prism{Base: poly(c...), Lo: lo, Hi: hi}}
}

// small is the survey of the chapter's examples.
func small() api.Survey {
	return api.Survey{
		Pit: bx(0, 0, 0, 100, 100, 100), Open: [4]bool{true, false, false, true},
		Beds:   []api.Bed{{Name: "b", Z: 50}},
		Joints: []api.Joint{{Name: "j", Axis: api.AxisX, At: 30, Lo: 0, Hi: 60}},
	}
}

// rich has several of everything, with things at the ends of the pit.
func rich() api.Survey {
	return api.Survey{
		Pit:  bx(-50, -40, -30, 150, 160, 170),
		Open: [4]bool{false, true, true, false},
		Beds: []api.Bed{{Name: "zz", Z: -30}, {Name: "m", Z: 0}, {Name: "a", Z: 90}, {Name: "top", Z: 170}},
		Joints: []api.Joint{
			{Name: "j1", Axis: api.AxisX, At: 30, Lo: 0, Hi: 60}, {Name: "j2", Axis: api.AxisY, At: -40, Lo: -30, Hi: 170}, {Name: "j3", Axis: api.AxisX, At: 30, Lo: 60, Hi: 61}, {Name: "j4", Axis: api.AxisX, At: 150, Lo: 20, Hi: 40},
			{Name: "j5", Axis: api.AxisX, At: 30, Lo: 100, Hi: 120}, {Name: "j6", Axis: api.AxisY, At: 30, Lo: 0, Hi: 100},
		},
		Flaws: []api.Flaw{flaw("f1", 0, 20, 0, 0, 40, 0, 0, 40), flaw("f2", -30, 170, -50, -40, 150, -40, 150, 160, -50, 160), flaw("f3", 20, 30, 60, 60, 80, 60, 80, 80, 60, 80)},
	}
}

func with(change func(s *api.Survey)) api.Survey {
	s := rich()
	change(&s)
	return s
}

type refusal struct {
	s api.Survey
	e api.Errno
}

func number(n int) string { return strconv.Itoa(n) }

// crowded has as many parts as are allowed, and more of each kind.
func crowded(beds, joints, flaws int) api.Survey {
	s := api.Survey{Pit: bx(-500, -500, -500, 500, 500, 500)}
	for i := range beds {
		s.Beds = append(s.Beds, api.Bed{Name: "b" + number(i), Z: i})
	}
	for i := range joints {
		s.Joints = append(s.Joints, api.Joint{Name: "j" + number(100+i), Axis: i % 2, At: i, Lo: 0, Hi: 1})
	}
	for i := range flaws {
		s.Flaws = append(s.Flaws, flaw("f"+number(100+i), 0, 1, i, 0, i+1, 0, i, 1))
	}
	return s
}

// refusals are surveys that are not valid.
func refusals() []refusal {
	bad := func(s *api.Survey) { s.Pit.Max.X = top + 1 }
	list := []refusal{
		{crowded(65, 0, 0), api.ErrTooMany},
		{crowded(0, 129, 0), api.ErrTooMany},
		{crowded(0, 0, 65), api.ErrTooMany},
		{api.Survey{Beds: make([]api.Bed, 65)}, api.ErrTooMany},
		{api.Survey{Joints: make([]api.Joint, 1000), Pit: bx(0, 0, 0, top+1, 1, 1)}, api.ErrTooMany},
		{api.Survey{}, api.ErrInvalid},
		{with(func(s *api.Survey) { s.Pit.Min.Y = 160 }), api.ErrInvalid},
		{with(func(s *api.Survey) { s.Pit.Max.Z = -31; s.Beds[0].Name = "" }), api.ErrInvalid},
		{with(func(s *api.Survey) { bad(s); s.Pit.Min.X = top + 1; s.Beds[0].Name = "" }), api.ErrRange},
		{with(func(s *api.Survey) { s.Pit.Min.Z = -top - 1 }), api.ErrRange},
		{with(func(s *api.Survey) { s.Pit.Max.Y = math.MaxInt }), api.ErrRange},
		{with(func(s *api.Survey) { s.Beds[1].Name = "A" }), api.ErrName},
		{with(func(s *api.Survey) { s.Joints[5].Name = "" }), api.ErrName},
		{with(func(s *api.Survey) { s.Flaws[2].Name = "a b"; s.Joints[0].Axis = 7 }), api.ErrName},
		{with(func(s *api.Survey) { s.Joints[3].Axis = api.AxisZ }), api.ErrInvalid},
		{with(func(s *api.Survey) { s.Joints[3].Axis = -1 }), api.ErrInvalid},
		{with(func(s *api.Survey) { s.Joints[2].Hi = 60 }), api.ErrInvalid},
		{with(func(s *api.Survey) { s.Flaws[1].Prism.Lo = 170 }), api.ErrInvalid},
		{with(func(s *api.Survey) { s.Flaws[1].Prism.Lo = 171; s.Flaws[0].Prism.Base[0].X = top + 1 }), api.ErrInvalid},
		{with(func(s *api.Survey) { s.Flaws[2].Prism.Base = make(api.Polygon, 65) }), api.ErrTooMany},
		{with(func(s *api.Survey) { s.Flaws[2].Prism.Base = poly(1, 1, 5, 5) }), api.ErrInvalid},
		{with(func(s *api.Survey) { s.Flaws[2].Prism.Base = nil }), api.ErrInvalid},
		{with(func(s *api.Survey) { s.Flaws[2].Prism.Base[1].Y = -top - 1 }), api.ErrRange},
		{with(func(s *api.Survey) { s.Flaws[2].Prism.Base[1] = s.Flaws[2].Prism.Base[0] }), api.ErrDuplicate},
		{with(func(s *api.Survey) {
			s.Flaws[1].Prism.Base = poly(1, 1, 1, 1, 5, 5)
			s.Flaws[2].Prism.Base = poly(1, 1)
		}), api.ErrDuplicate},
		{with(func(s *api.Survey) {
			s.Flaws[0].Prism.Base = poly(0, 0, 0, 10, 10, 0)
			s.Flaws[2].Prism.Base = poly(1, 1)
		}), api.ErrInvalid},
		{with(func(s *api.Survey) { s.Flaws[0].Prism.Base = poly(0, 0, 0, 40, 40, 0) }), api.ErrConflict},
		{with(func(s *api.Survey) { s.Flaws[0].Prism.Base = poly(0, 0, 20, 0, 40, 0, 0, 40) }), api.ErrConflict},
		{with(func(s *api.Survey) { s.Flaws[0].Prism.Base = poly(0, 0, 40, 0, 9, 9, 0, 40) }), api.ErrConflict},
		{with(func(s *api.Survey) { s.Flaws[0].Prism.Base = poly(0, 0, 0, 40, 40, 0); s.Beds[0].Z = -31 }), api.ErrConflict},
	}
	for _, change := range []func(s *api.Survey){
		func(s *api.Survey) { s.Beds[0].Z = -31 },
		func(s *api.Survey) { s.Beds[3].Z = 171 },
		func(s *api.Survey) { s.Beds[2].Z = math.MinInt },
		func(s *api.Survey) { s.Joints[0].At = -51 },
		func(s *api.Survey) { s.Joints[0].At = 151 },
		func(s *api.Survey) { s.Joints[0].At = math.MaxInt },
		func(s *api.Survey) { s.Joints[1].At = -41 },
		func(s *api.Survey) { s.Joints[1].At = 161 },
		func(s *api.Survey) { s.Joints[1].Lo = -31 },
		func(s *api.Survey) { s.Joints[1].Hi = 171 },
		func(s *api.Survey) { s.Joints[1].Lo = math.MinInt },
		func(s *api.Survey) { s.Flaws[0].Prism.Base = poly(-51, 0, 40, 0, 0, 40) },
		func(s *api.Survey) { s.Flaws[0].Prism.Base = poly(0, 0, 151, 0, 0, 40) },
		func(s *api.Survey) { s.Flaws[0].Prism.Base = poly(0, -41, 40, 0, 0, 40) },
		func(s *api.Survey) { s.Flaws[0].Prism.Base = poly(0, 0, 40, 0, 0, 161) },
		func(s *api.Survey) { s.Flaws[2].Prism.Lo = -31 },
		func(s *api.Survey) { s.Flaws[2].Prism.Hi = 171 },
		func(s *api.Survey) { s.Flaws[2].Prism.Hi = math.MaxInt },
		func(s *api.Survey) { s.Flaws[2].Prism.Hi = 171; s.Beds[1].Name = "a" },
	} {
		list = append(list, refusal{with(change), api.ErrOutside})
	}
	for _, change := range []func(s *api.Survey){
		func(s *api.Survey) { s.Beds[1].Z = -30 },
		func(s *api.Survey) { s.Beds[1].Z = 91 },
		func(s *api.Survey) { s.Joints[0], s.Joints[1] = s.Joints[1], s.Joints[0] },
		func(s *api.Survey) { s.Joints[1].Name = "j1" },
		func(s *api.Survey) { s.Flaws[1], s.Flaws[2] = s.Flaws[2], s.Flaws[1] },
		func(s *api.Survey) { s.Flaws[1].Name = "f3" },
		func(s *api.Survey) { s.Beds[0].Name = "top" },
		func(s *api.Survey) { s.Beds[2].Name = "j4" },
		func(s *api.Survey) { s.Beds[2].Name = "f2" },
		func(s *api.Survey) { s.Joints[0].Name = "f3"; s.Joints = s.Joints[:1] },
	} {
		list = append(list, refusal{with(change), api.ErrDuplicate})
	}
	return list
}

// P13.1
func TestCheck(t *testing.T) {
	corners := with(func(s *api.Survey) {
		s.Pit, s.Flaws = bx(0, 0, 0, 5000, 5000, 5000), s.Flaws[:1]
		s.Beds, s.Joints = nil, nil
		s.Flaws[0].Prism.Base = nil
		for i := range api.MaxCorners {
			s.Flaws[0].Prism.Base = append(s.Flaws[0].Prism.Base, api.Point{X: 10 * i, Y: i * i})
		}
	})
	for i, s := range []api.Survey{
		small(), rich(), crowded(64, 128, 64), corners,
		{Pit: bx(0, 0, 0, 1, 1, 1)}, {Pit: bx(-top, -top, -top, top, top, top), Open: [4]bool{true, true, true, true}},
	} {
		if e := survey.Check(s); e != api.OK {
			t.Errorf("%d: %d", i, e)
		}
	}
	for i, c := range refusals() {
		if e := survey.Check(c.s); e != c.e {
			t.Errorf("%d: Check = %d, want %d", i, e, c.e)
		}
	}
}

// all calls each function with a survey, a box and a direction that are not allowed, and returns the errors.
func all(t *testing.T, s api.Survey, b api.Box, side int) [4]api.Errno {
	t.Helper()
	x, e1 := survey.Through(s, b)
	f, e2 := survey.Flaws(s, b)
	o, e3 := survey.Open(s, b, side)
	j, e4 := survey.Jointed(s, b, side)
	if x != nil || f != nil || o || j != nil {
		t.Errorf("results with errors: %v %v %v %v", x, f, o, j)
	}
	return [4]api.Errno{e1, e2, e3, e4}
}

// P1: the errors of the functions with a survey, in their order.
func TestErrors(t *testing.T) {
	for i, c := range refusals() {
		if got := all(t, c.s, api.Box{}, 9); got != [4]api.Errno{c.e, c.e, c.e, c.e} {
			t.Errorf("%d: %v, want %d", i, got, c.e)
		}
		if l, e := survey.Line(c.s); e != c.e || l.Tokens != nil || l.Kids != nil || l.Heading {
			t.Errorf("%d: Line %d, want %d", i, e, c.e)
		}
	}
	in, out, r := api.ErrInvalid, api.ErrOutside, api.ErrRange
	inside := bx(0, 0, 0, 9, 9, 9)
	for i, c := range []struct {
		b    api.Box
		side int
		want [4]api.Errno
	}{
		{api.Box{}, 0, [4]api.Errno{in, in, in, in}},
		{api.Box{}, 4, [4]api.Errno{in, in, r, r}},
		{api.Box{}, -1, [4]api.Errno{in, in, r, r}},
		{bx(-51, 0, 0, 9, 9, 9), math.MinInt, [4]api.Errno{out, out, r, r}},
		{bx(0, 0, 0, 0, 9, 9), 0, [4]api.Errno{in, in, in, in}},
		{bx(0, 0, 0, 9, 0, 9), 1, [4]api.Errno{in, in, in, in}},
		{bx(0, 0, 9, 9, 9, 8), 2, [4]api.Errno{in, in, in, in}},
		{bx(500, 0, 9, 900, 9, 9), 3, [4]api.Errno{in, in, in, in}},
		{bx(math.MaxInt, 0, 0, math.MinInt, 9, 9), 3, [4]api.Errno{in, in, in, in}},
		{bx(-51, 0, 0, 9, 9, 9), 0, [4]api.Errno{out, out, out, out}},
		{bx(0, -41, 0, 9, 9, 9), 0, [4]api.Errno{out, out, out, out}},
		{bx(0, 0, -31, 9, 9, 9), 0, [4]api.Errno{out, out, out, out}},
		{bx(0, 0, 0, 151, 9, 9), 0, [4]api.Errno{out, out, out, out}},
		{bx(0, 0, 0, 9, 161, 9), 0, [4]api.Errno{out, out, out, out}},
		{bx(0, 0, 0, 9, 9, 171), 0, [4]api.Errno{out, out, out, out}},
		{bx(math.MinInt, math.MinInt, math.MinInt, math.MaxInt, math.MaxInt, math.MaxInt), 0, [4]api.Errno{out, out, out, out}},
	} {
		if got := all(t, rich(), c.b, c.side); got != c.want {
			t.Errorf("%d: %v, want %v", i, got, c.want)
		}
	}
	for _, side := range []int{4, -1, math.MaxInt} {
		if o, e := survey.Open(rich(), inside, side); o || e != r {
			t.Errorf("Open(%d): %d", side, e)
		}
		if j, e := survey.Jointed(rich(), inside, side); j != nil || e != r {
			t.Errorf("Jointed(%d): %d", side, e)
		}
	}
}

// P13.2
func TestThrough(t *testing.T) {
	for i, c := range []struct {
		s             api.Survey
		b             api.Box
		through, flaw []string
	}{
		{small(), bx(0, 0, 40, 50, 50, 60), []string{"b", "j"}, nil},
		{small(), bx(30, 0, 50, 50, 50, 60), nil, nil},
		{small(), bx(29, 0, 59, 31, 50, 60), []string{"j"}, nil},
		{small(), bx(29, 0, 60, 31, 50, 70), nil, nil},
		{small(), bx(0, 0, 0, 30, 50, 50), nil, nil},
		{small(), bx(0, 0, 49, 30, 50, 51), []string{"b"}, nil},
		{small(), bx(0, 0, 0, 100, 100, 100), []string{"b", "j"}, nil},
		{rich(), rich().Pit, []string{"a", "j1", "j3", "j5", "j6", "m"}, []string{"f1", "f2", "f3"}},
		{rich(), bx(29, 30, 99, 31, 32, 101), []string{"j5"}, []string{"f2"}},
		{rich(), bx(29, 29, 100, 30, 31, 101), nil, []string{"f2"}},
		{rich(), bx(29, 29, 99, 30, 31, 100), []string{"j6"}, []string{"f2"}},
		{rich(), bx(20, 20, 0, 60, 60, 20), []string{"j1", "j6"}, []string{"f2"}},
		{rich(), bx(20, 19, 0, 60, 60, 20), []string{"j1", "j6"}, []string{"f1", "f2"}},
		{rich(), bx(20, 19, 20, 61, 61, 21), []string{"j1", "j6"}, []string{"f2", "f3"}},
		{rich(), bx(20, 19, 19, 60, 61, 31), []string{"j1", "j6"}, []string{"f1", "f2"}},
		{rich(), bx(79, 79, 29, 80, 80, 30), nil, []string{"f2", "f3"}},
		{rich(), bx(79, 79, 30, 80, 80, 31), nil, []string{"f2"}},
	} {
		if got, e := survey.Through(c.s, c.b); !slices.Equal(got, c.through) || e != api.OK {
			t.Errorf("%d: Through = %q, %d", i, got, e)
		}
		if got, e := survey.Flaws(c.s, c.b); !slices.Equal(got, c.flaw) || e != api.OK {
			t.Errorf("%d: Flaws = %q, %d", i, got, e)
		}
	}
}

// P13.2
func TestBedded(t *testing.T) {
	odd := api.Survey{Beds: []api.Bed{{Name: "A b", Z: 9}, {Z: math.MinInt}, {Z: 9}, {Z: 3}}}
	for i, c := range []struct {
		s    api.Survey
		z    int
		want bool
	}{{small(), 50, true}, {small(), 49, false}, {small(), 0, false}, {rich(), 170, true}, {rich(), -30, true}, {api.Survey{}, 0, false}, {odd, 3, true}, {odd, math.MinInt, true}, {odd, 0, false}} {
		if got := survey.Bedded(c.s, c.z); got != c.want {
			t.Errorf("%d: %v", i, got)
		}
	}
}

// P13.3
func TestOpenAndJointed(t *testing.T) {
	for i, c := range []struct {
		b    api.Box
		want [4]bool
	}{
		{rich().Pit, [4]bool{false, true, true, false}},
		{bx(-50, -40, 0, 150, 159, 1), [4]bool{false, true, false, false}},
		{bx(-49, -40, 0, 150, 160, 1), [4]bool{false, false, true, false}},
		{bx(0, 0, 0, 1, 1, 1), [4]bool{}},
	} {
		for side, want := range c.want {
			if got, e := survey.Open(rich(), c.b, side); got != want || e != api.OK {
				t.Errorf("%d: Open(%d) = %v, %d", i, side, got, e)
			}
		}
	}
	type set = []api.Interval
	for i, c := range []struct {
		s    api.Survey
		b    api.Box
		side int
		want set
	}{
		{small(), bx(30, 0, 40, 50, 50, 70), api.MinusX, set{{Lo: 40, Hi: 59}}},
		{small(), bx(30, 0, 40, 50, 50, 70), api.PlusX, nil},
		{small(), bx(10, 0, 40, 30, 50, 70), api.PlusX, set{{Lo: 40, Hi: 59}}},
		{small(), bx(10, 0, 60, 30, 50, 70), api.PlusX, nil},
		{small(), bx(10, 0, 59, 30, 50, 70), api.PlusX, set{{Lo: 59, Hi: 59}}},
		{small(), bx(10, 30, 40, 31, 50, 70), api.MinusY, nil},
		{rich(), bx(30, 30, -30, 40, 40, 170), api.MinusX, set{{Lo: 0, Hi: 60}, {Lo: 100, Hi: 119}}},
		{rich(), bx(30, 30, 10, 40, 40, 110), api.MinusX, set{{Lo: 10, Hi: 60}, {Lo: 100, Hi: 109}}},
		{rich(), bx(30, 30, 60, 40, 40, 100), api.MinusX, set{{Lo: 60, Hi: 60}}},
		{rich(), bx(30, 30, -30, 40, 40, 170), api.MinusY, set{{Lo: 0, Hi: 99}}},
		{rich(), bx(30, 20, 99, 40, 30, 101), api.PlusY, set{{Lo: 99, Hi: 99}}},
		{rich(), rich().Pit, api.PlusX, set{{Lo: 20, Hi: 39}}},
		{rich(), rich().Pit, api.MinusY, set{{Lo: -30, Hi: 169}}},
		{rich(), rich().Pit, api.MinusX, nil},
	} {
		if got, e := survey.Jointed(c.s, c.b, c.side); !slices.Equal(got, c.want) || e != api.OK {
			t.Errorf("%d: %v, %d, want %v", i, got, e, c.want)
		}
	}
}

// P13.1
func TestEqual(t *testing.T) {
	if !survey.Equal(rich(), rich()) || !survey.Equal(api.Survey{}, api.Survey{}) || survey.Equal(rich(), small()) {
		t.Error("Equal")
	}
	empty := api.Survey{Beds: []api.Bed{}, Joints: []api.Joint{}, Flaws: []api.Flaw{}}
	if !survey.Equal(empty, api.Survey{}) {
		t.Error("empty lists")
	}
	flat := api.Survey{Flaws: []api.Flaw{{Prism: api.Prism{Base: api.Polygon{}}}}}
	if !survey.Equal(flat, api.Survey{Flaws: []api.Flaw{{}}}) {
		t.Error("empty bases")
	}
	for i, change := range []func(s *api.Survey){
		func(s *api.Survey) { s.Pit.Min.X++ }, func(s *api.Survey) { s.Pit.Max.Z++ }, func(s *api.Survey) { s.Open[3] = true },
		func(s *api.Survey) { s.Beds = s.Beds[1:] }, func(s *api.Survey) { s.Beds[0].Z++ }, func(s *api.Survey) { s.Beds[0].Name = "x" }, func(s *api.Survey) { s.Beds[0], s.Beds[1] = s.Beds[1], s.Beds[0] },
		func(s *api.Survey) { s.Joints = nil }, func(s *api.Survey) { s.Joints[0].Axis++ }, func(s *api.Survey) { s.Joints[0].At++ }, func(s *api.Survey) { s.Joints[0].Lo++ }, func(s *api.Survey) { s.Joints[0].Hi++ }, func(s *api.Survey) { s.Joints[0].Name = "x" },
		func(s *api.Survey) { s.Flaws = s.Flaws[:2] }, func(s *api.Survey) { s.Flaws[0].Name = "x" }, func(s *api.Survey) { s.Flaws[0].Prism.Lo++ }, func(s *api.Survey) { s.Flaws[0].Prism.Hi++ }, func(s *api.Survey) { s.Flaws[0].Prism.Base[2].Y++ }, func(s *api.Survey) { s.Flaws[0].Prism.Base = s.Flaws[0].Prism.Base[:2] },
	} {
		if s := with(change); survey.Equal(s, rich()) || survey.Equal(rich(), s) {
			t.Errorf("%d: equal", i)
		}
	}
}

func randomSurvey(r *rand.Rand) api.Survey {
	s := api.Survey{Pit: bx(0, 0, 0, 12, 12, 12)}
	for side := range s.Open {
		s.Open[side] = r.Intn(2) == 0
	}
	for z := range 13 {
		if r.Intn(4) == 0 {
			s.Beds = append(s.Beds, api.Bed{Name: "b" + number(9-z%10) + number(z), Z: z})
		}
	}
	for i := range r.Intn(8) {
		lo := r.Intn(12)
		s.Joints = append(s.Joints, api.Joint{Name: "c" + number(i), Axis: r.Intn(2), At: r.Intn(13), Lo: lo, Hi: lo + 1 + r.Intn(12-lo)})
	}
	for i := range r.Intn(5) {
		x, y, lo := r.Intn(12), r.Intn(12), r.Intn(12)
		u, v, hi := x+1+r.Intn(12-x), y+1+r.Intn(12-y), lo+1+r.Intn(12-lo)
		base := poly(x, y, u, y, u, v, x, v)
		s.Flaws = append(s.Flaws, api.Flaw{Name: "a" + number(i), Prism: api.Prism{Base: base[:3+r.Intn(2)], Lo: lo, Hi: hi}})
	}
	return s
}

func randomBox(r *rand.Rand) api.Box {
	b := api.Box{Min: api.Vec{X: r.Intn(12), Y: r.Intn(12), Z: r.Intn(12)}}
	b.Max = api.Vec{X: b.Min.X + 1 + r.Intn(12-b.Min.X), Y: b.Min.Y + 1 + r.Intn(12-b.Min.Y), Z: b.Min.Z + 1 + r.Intn(12-b.Min.Z)}
	return b
}

// touched counts the cells of a box that a flaw overlaps: cells of a half rectangle by the doubled distance of their best corner from the diagonal.
func touched(f api.Flaw, b api.Box) bool {
	p, q := f.Prism.Base[0], f.Prism.Base[2]
	for x := max(b.Min.X, p.X); x < min(b.Max.X, q.X); x++ {
		for y := max(b.Min.Y, p.Y); y < min(b.Max.Y, q.Y); y++ {
			below := (x+1-p.X)*(q.Y-p.Y) > (y-p.Y)*(q.X-p.X)
			if (len(f.Prism.Base) == 4 || below) && max(b.Min.Z, f.Prism.Lo) < min(b.Max.Z, f.Prism.Hi) {
				return true
			}
		}
	}
	return false
}

// P13.2, P13.3: against the definitions, cell by cell and z by z.
func TestRandomly(t *testing.T) {
	r := rand.New(rand.NewSource(13))
	for range 3000 {
		s, b := randomSurvey(r), randomBox(r)
		var through, flaws []string
		for _, f := range s.Flaws {
			if touched(f, b) {
				flaws = append(flaws, f.Name)
			}
		}
		for _, x := range s.Beds {
			if b.Min.Z < x.Z && x.Z < b.Max.Z {
				through = append(through, x.Name)
			}
		}
		inJoint := func(axis, at, z int) []string {
			var names []string
			for _, j := range s.Joints {
				if j.Axis == axis && j.At == at && j.Lo <= z && z < j.Hi {
					names = append(names, j.Name)
				}
			}
			return names
		}
		for z := b.Min.Z; z < b.Max.Z; z++ {
			for x := b.Min.X + 1; x < b.Max.X; x++ {
				through = append(through, inJoint(api.AxisX, x, z)...)
			}
			for y := b.Min.Y + 1; y < b.Max.Y; y++ {
				through = append(through, inJoint(api.AxisY, y, z)...)
			}
		}
		slices.Sort(through)
		through = slices.Compact(through)
		if got, e := survey.Through(s, b); !slices.Equal(got, through) || e != api.OK {
			t.Fatalf("%v: Through(%v) = %q, %d, want %q", s, b, got, e, through)
		}
		if got, e := survey.Flaws(s, b); !slices.Equal(got, flaws) || e != api.OK {
			t.Fatalf("%v: Flaws(%v) = %q, %d, want %q", s, b, got, e, flaws)
		}
		ends := [4]int{b.Max.X, b.Min.X, b.Max.Y, b.Min.Y}
		for side, at := range ends {
			open := s.Open[side] && at == [4]int{12, 0, 12, 0}[side]
			if got, e := survey.Open(s, b, side); got != open || e != api.OK {
				t.Fatalf("%v: Open(%v, %d) = %v, %d", s, b, side, got, e)
			}
			var want []api.Interval
			for z := b.Min.Z; z < b.Max.Z; z++ {
				last := len(want) - 1
				switch {
				case len(inJoint(side/2, at, z)) == 0:
				case last >= 0 && want[last].Hi == z-1:
					want[last].Hi = z
				default:
					want = append(want, api.Interval{Lo: z, Hi: z})
				}
			}
			if got, e := survey.Jointed(s, b, side); !slices.Equal(got, want) || e != api.OK {
				t.Fatalf("%v: Jointed(%v, %d) = %v, %d, want %v", s, b, side, got, e, want)
			}
		}
	}
}

// P13.5: what passes through or overlaps a part does so with the whole; what divides a box passes through neither part.
func TestParts(t *testing.T) {
	r := rand.New(rand.NewSource(14))
	for range 2000 {
		s, b := randomSurvey(r), randomBox(r)
		through, _ := survey.Through(s, b)
		flaws, _ := survey.Flaws(s, b)
		part := b
		part.Min.X += r.Intn(b.Max.X - b.Min.X)
		part.Max.Y -= r.Intn(b.Max.Y - b.Min.Y)
		part.Max.Z -= r.Intn(b.Max.Z - b.Min.Z)
		partThrough, _ := survey.Through(s, part)
		partFlaws, _ := survey.Flaws(s, part)
		for _, name := range partThrough {
			if !slices.Contains(through, name) {
				t.Fatalf("%v: %s passes through %v, but not through %v", s, name, part, b)
			}
		}
		for _, name := range partFlaws {
			if !slices.Contains(flaws, name) {
				t.Fatalf("%v: %s overlaps %v, but not %v", s, name, part, b)
			}
		}
		for _, x := range s.Beds {
			if slices.Contains(through, x.Name) {
				low, high := b, b
				low.Max.Z, high.Min.Z = x.Z, x.Z
				l, _ := survey.Through(s, low)
				h, _ := survey.Through(s, high)
				if slices.Contains(l, x.Name) || slices.Contains(h, x.Name) {
					t.Fatalf("%v: %s divides %v and passes through a part", s, x.Name, b)
				}
			}
		}
	}
}

// P1: arguments are not changed, and results are new.
func TestNothingIsShared(t *testing.T) {
	s := rich()
	survey.Check(s)
	names, _ := survey.Through(s, s.Pit)
	names[0] = "q"
	survey.Flaws(s, s.Pit)
	survey.Jointed(s, s.Pit, 0)
	survey.Line(s)
	if !survey.Equal(s, rich()) {
		t.Error("a function changes its argument")
	}
}
