package bench_test

import (
	"fmt"
	"math"
	"math/rand"
	"slices"
	"testing"

	"gangsaw/api"
	"gangsaw/bench"
	"gangsaw/survey"
)

const top = api.MaxCoord

func v(x, y, z int) api.Vec { return api.Vec{X: x, Y: y, Z: z} }

func bx(x, y, z, x2, y2, z2 int) api.Box { return api.Box{Min: v(x, y, z), Max: v(x2, y2, z2)} }

func block(name string, x, y, z, x2, y2, z2 int) api.Block {
	return api.Block{Name: name, Box: bx(x, y, z, x2, y2, z2)}
}

// example is the site of the chapter's examples.
func example() api.Site {
	return api.Site{
		Survey:  api.Survey{Pit: bx(0, 0, 0, 100, 100, 100)},
		Benches: []api.Bench{{Name: "low", Lo: 0, Hi: 40}, {Name: "high", Lo: 50, Hi: 100}},
		Blocks:  []api.Block{block("a", 0, 0, 0, 20, 20, 40), block("b", 0, 0, 50, 30, 10, 80), block("c", 60, 0, 0, 70, 70, 30)},
		Density: 2700,
	}
}

func with(change func(s *api.Site)) api.Site {
	s := example()
	change(&s)
	return s
}

// crowded has many benches, or many blocks.
func crowded(benches, blocks int) api.Site {
	s := api.Site{Survey: api.Survey{Pit: bx(0, 0, 0, 1000, 1000, 1000)}, Density: 1}
	for i := range benches {
		s.Benches = append(s.Benches, api.Bench{Name: fmt.Sprintf("l%d", i), Lo: 10 * i, Hi: 10*i + 10})
	}
	for i := range blocks {
		s.Blocks = append(s.Blocks, block(fmt.Sprintf("b%03d", i), i, 0, 0, i+1, 1, 1))
	}
	return s
}

type refusal struct {
	s api.Site
	e api.Errno
}

// refusals are sites that are not valid. Each kind of error stands beside the next one, too.
func refusals() []refusal {
	list := []refusal{
		{api.Site{}, api.ErrInvalid},
		{with(func(s *api.Site) { s.Survey.Beds = []api.Bed{{Name: "", Z: 1}}; s.Benches = make([]api.Bench, 33) }), api.ErrName},
		{with(func(s *api.Site) { s.Survey.Pit.Max.X = top + 1 }), api.ErrRange},
		{crowded(33, 0), api.ErrTooMany},
		{crowded(1, 257), api.ErrTooMany},
		{with(func(s *api.Site) { s.Benches = make([]api.Bench, 33); s.Density = 0 }), api.ErrTooMany},
		{with(func(s *api.Site) { s.Density = 0; s.Blocks[2].Name = "C" }), api.ErrRange},
		{with(func(s *api.Site) { s.Benches[1].Name = "High"; s.Blocks[0].Box.Max.X = 0 }), api.ErrName},
		{with(func(s *api.Site) { s.Blocks[2].Name = "c d" }), api.ErrName},
		{with(func(s *api.Site) { s.Blocks[2].Name = ""; s.Benches[0].Hi = 0 }), api.ErrName},
		{with(func(s *api.Site) { s.Benches[1].Hi = 50; s.Blocks[0].Box.Max.X = 101 }), api.ErrInvalid},
		{with(func(s *api.Site) { s.Benches[1].Hi = 49 }), api.ErrInvalid},
		{with(func(s *api.Site) { s.Blocks[1].Box.Max.Y = 0; s.Benches[0].Lo = -1 }), api.ErrInvalid},
		{with(func(s *api.Site) { s.Blocks[1].Box.Min.X = 31 }), api.ErrInvalid},
		{with(func(s *api.Site) { s.Blocks[1].Box.Max.Z = math.MinInt }), api.ErrInvalid},
		{with(func(s *api.Site) { s.Benches[0].Lo = -1; s.Benches[1].Lo = 39 }), api.ErrOutside},
		{with(func(s *api.Site) { s.Benches[1].Hi = 101 }), api.ErrOutside},
		{with(func(s *api.Site) { s.Blocks[1].Box.Max.X = 101; s.Benches[1].Lo = 39 }), api.ErrOutside},
		{with(func(s *api.Site) { s.Blocks[1].Box.Min.Y = -1 }), api.ErrOutside},
		{with(func(s *api.Site) { s.Blocks[0].Box.Min.Z = math.MinInt }), api.ErrOutside},
		{with(func(s *api.Site) { s.Benches[1].Lo = 39; s.Benches[1].Name = "low" }), api.ErrOverlap},
		{with(func(s *api.Site) { slices.Reverse(s.Benches) }), api.ErrOverlap},
		{with(func(s *api.Site) { s.Benches[1].Name = "low"; s.Blocks[0].Box.Min.Z = 1 }), api.ErrDuplicate},
		{with(func(s *api.Site) { s.Blocks[1].Name = "a" }), api.ErrDuplicate},
		{with(func(s *api.Site) { s.Blocks[1].Name = "d"; s.Blocks[0].Box.Min.Z = 1 }), api.ErrDuplicate},
		{with(func(s *api.Site) { s.Blocks[0] = block("a", 0, 0, 10, 5, 5, 20) }), api.ErrConflict},
		{with(func(s *api.Site) { s.Blocks[0].Box.Max.Z = 41 }), api.ErrConflict},
		{with(func(s *api.Site) { s.Blocks[0] = block("a", 60, 0, 10, 65, 5, 20) }), api.ErrConflict},
		{with(func(s *api.Site) { s.Benches = nil }), api.ErrConflict},
		{with(func(s *api.Site) { s.Blocks[0].Box.Max = v(61, 1, 40) }), api.ErrOverlap},
		{with(func(s *api.Site) { s.Blocks[2].Box = s.Blocks[0].Box }), api.ErrOverlap},
	}
	for _, n := range []int{-1, 10001, math.MaxInt, math.MinInt} {
		list = append(list, refusal{with(func(s *api.Site) { s.Safety.Batter = n }), api.ErrRange}, refusal{with(func(s *api.Site) { s.Density = n }), api.ErrRange})
	}
	for _, n := range []int{-1, top + 1, math.MaxInt, math.MinInt} {
		list = append(list, refusal{with(func(s *api.Site) { s.Safety.Width = n }), api.ErrRange})
	}
	return list
}

// P17.1
func TestCheck(t *testing.T) {
	for i, s := range []api.Site{
		example(), crowded(32, 256), crowded(0, 0), crowded(1, 1),
		with(func(s *api.Site) { s.Safety = api.Safety{Batter: 10000, Width: top}; s.Density = 10000 }),
		with(func(s *api.Site) { s.Density = 1; s.Benches[1].Lo = 40; s.Blocks[1].Box.Min.Z = 40 }),
		with(func(s *api.Site) { s.Benches[0].Name = "a"; s.Blocks[0].Box.Max.X = 60 }),
		with(func(s *api.Site) { s.Benches[1].Hi = 60; s.Blocks[1].Box.Max = v(100, 100, 60) }),
	} {
		if e := bench.Check(s); e != api.OK {
			t.Errorf("Check of site %d: %d", i, e)
		}
	}
	for i, c := range refusals() {
		if e := bench.Check(c.s); e != c.e {
			t.Errorf("Check of refusal %d: %d, want %d", i, e, c.e)
		}
	}
}

// P17.1
func TestFindAndAt(t *testing.T) {
	s := example()
	for _, b := range s.Blocks {
		if got, e := bench.Find(s, b.Name); got != b || e != api.OK {
			t.Errorf("Find(%q) = %v, %d", b.Name, got, e)
		}
	}
	for _, name := range []string{"", "d", "A", "low"} {
		if got, e := bench.Find(s, name); got != (api.Block{}) || e != api.ErrUnknown {
			t.Errorf("Find(%q) = %v, %d", name, got, e)
		}
	}
	for _, c := range []struct {
		p    api.Vec
		want string
	}{
		{v(0, 0, 0), "a"}, {v(19, 19, 39), "a"}, {v(0, 0, 40), ""}, {v(20, 0, 0), ""}, {v(0, 0, 50), "b"}, {v(29, 9, 79), "b"}, {v(29, 10, 79), ""},
		{v(60, 69, 29), "c"}, {v(60, 69, 30), ""}, {v(-1, 0, 0), ""}, {v(math.MaxInt, math.MinInt, 0), ""},
	} {
		want := api.OK
		if c.want == "" {
			want = api.ErrNone
		}
		if got, e := bench.At(s, c.p); got != c.want || e != want {
			t.Errorf("At(%v) = %q, %d", c.p, got, e)
		}
	}
}

func same(a, b [][]string) bool { return slices.EqualFunc(a, b, slices.Equal[[]string]) }

// P17.2
func TestLevelAndRows(t *testing.T) {
	s := example()
	for name, want := range map[string]int{"a": 0, "b": 1, "c": 0} {
		if got, e := bench.Level(s, name); got != want || e != api.OK {
			t.Errorf("Level(%q) = %d, %d", name, got, e)
		}
	}
	if got, e := bench.Level(s, "high"); got != 0 || e != api.ErrUnknown {
		t.Errorf("Level of no block: %d, %d", got, e)
	}
	if got, e := bench.Rows(s); !same(got, [][]string{{"a", "c"}, {"b"}}) || e != api.OK {
		t.Errorf("Rows = %v, %d", got, e)
	}
	s.Blocks = s.Blocks[:1]
	if got, e := bench.Rows(s); !same(got, [][]string{{"a"}, nil}) || e != api.OK {
		t.Errorf("Rows of one block = %v, %d", got, e)
	}
	if got, e := bench.Rows(crowded(0, 0)); len(got) != 0 || e != api.OK {
		t.Errorf("Rows of no benches = %v, %d", got, e)
	}
}

// P17.3, P17.4
func TestGap(t *testing.T) {
	a, b, c := example().Blocks[0].Box, example().Blocks[1].Box, example().Blocks[2].Box
	for _, x := range []struct {
		a, b api.Box
		want int
	}{
		{a, c, 40}, {a, b, 0}, {b, c, 30}, {a, a, 0},
		{a, bx(20, 20, 0, 30, 30, 1), 0},
		{a, bx(21, 0, 900, 30, 30, 901), 1},
		{a, bx(0, 27, 0, 30, 30, 1), 7},
		{a, bx(22, 27, 0, 30, 30, 1), 7},
		{a, bx(29, 27, 0, 30, 30, 1), 9},
		{a, bx(-9, -9, 0, -5, -3, 1), 5},
		{bx(-top, 0, 0, -top, 1, 1), bx(top, 0, 0, top, 1, 1), 2 * top},
		{bx(5, 0, 0, 3, 1, 1), bx(4, 0, 0, 4, 1, 1), 1},
		{bx(9, 0, 0, 1, 1, 1), bx(8, 0, 0, 2, 1, 1), 7},
	} {
		if got, back := bench.Gap(x.a, x.b), bench.Gap(x.b, x.a); got != x.want || back != x.want {
			t.Errorf("Gap of %v and %v is %d and %d", x.a, x.b, got, back)
		}
	}
}

// P17.3
func TestAboveAndRest(t *testing.T) {
	s := example()
	for name, want := range map[string][]string{"a": {"b"}, "b": nil, "c": nil} {
		if got, e := bench.Above(s, name); !slices.Equal(got, want) || e != api.OK {
			t.Errorf("Above(%q) = %v, %d", name, got, e)
		}
	}
	for name, want := range map[string]int64{"low": 363000, "high": 500000 - 9000} {
		if got, e := bench.Rest(s, name); got != want || e != api.OK {
			t.Errorf("Rest(%q) = %d, %d", name, got, e)
		}
	}
	for _, name := range []string{"a", "", "Low"} {
		if got, e := bench.Rest(s, name); got != 0 || e != api.ErrUnknown {
			t.Errorf("Rest(%q) = %d, %d", name, got, e)
		}
	}
	for _, name := range []string{"low", "", "d"} {
		if got, e := bench.Above(s, name); got != nil || e != api.ErrUnknown {
			t.Errorf("Above(%q) = %v, %d", name, got, e)
		}
	}
	// The names of what lies above are sorted although the site's benches are in the order of z.
	s.Benches = append(s.Benches[:1], api.Bench{Name: "mid", Lo: 40, Hi: 60}, api.Bench{Name: "up", Lo: 60, Hi: 100})
	s.Blocks = []api.Block{block("a", 19, 19, 60, 50, 50, 61), block("b", 0, 0, 40, 20, 20, 60), block("c", 0, 0, 0, 20, 20, 40)}
	if got, e := bench.Above(s, "c"); !slices.Equal(got, []string{"a", "b"}) || e != api.OK {
		t.Errorf("Above(c) = %v, %d", got, e)
	}
}

func randomSite(r *rand.Rand) api.Site {
	s := api.Site{Survey: api.Survey{Pit: bx(0, 0, 0, 8, 8, 9)}, Benches: []api.Bench{{Name: "x", Lo: 0, Hi: 3}, {Name: "y", Lo: 3, Hi: 6}, {Name: "z", Lo: 7, Hi: 9}}, Density: 1}
	for i := range 12 {
		x, y, l := r.Intn(7), r.Intn(7), s.Benches[r.Intn(3)]
		b := block(fmt.Sprintf("b%02d", i), x, y, l.Lo, min(x+1+r.Intn(4), 8), min(y+1+r.Intn(4), 8), l.Lo+1+r.Intn(l.Hi-l.Lo))
		s.Blocks = append(s.Blocks, b)
		if bench.Check(s) != api.OK {
			s.Blocks = s.Blocks[:len(s.Blocks)-1]
		}
	}
	return s
}

func common(a, b api.Box) bool {
	return max(a.Min.X, b.Min.X) < min(a.Max.X, b.Max.X) && max(a.Min.Y, b.Min.Y) < min(a.Max.Y, b.Max.Y)
}

// P17.1 to P17.4: cell by cell.
func TestAgainstDefinitions(t *testing.T) {
	r := rand.New(rand.NewSource(1))
	for range 300 {
		s := randomSite(r)
		left := map[string]int64{"x": 192, "y": 192, "z": 128}
		in := map[string]int{}
		for z := range 9 {
			for y := range 8 {
				for x := range 8 {
					if name, e := bench.At(s, v(x, y, z)); e == api.OK {
						in[name]++
						left[[]string{"x", "x", "x", "y", "y", "y", "", "z", "z"}[z]]--
					}
				}
			}
		}
		rows, _ := bench.Rows(s)
		count := 0
		for i, l := range s.Benches {
			if got, e := bench.Rest(s, l.Name); got != left[l.Name] || e != api.OK {
				t.Fatalf("%v: Rest(%q) = %d, %d", s, l.Name, got, e)
			}
			for _, name := range rows[i] {
				if level, _ := bench.Level(s, name); level != i {
					t.Fatalf("%v: Level(%q) = %d", s, name, level)
				}
			}
			count += len(rows[i])
		}
		if count != len(s.Blocks) {
			t.Fatalf("%v: Rows = %v", s, rows)
		}
		for _, a := range s.Blocks {
			size := (a.Box.Max.X - a.Box.Min.X) * (a.Box.Max.Y - a.Box.Min.Y) * (a.Box.Max.Z - a.Box.Min.Z)
			var above []string
			for _, b := range s.Blocks {
				if b.Box.Min.Z >= a.Box.Max.Z && common(a.Box, b.Box) {
					above = append(above, b.Name)
				}
			}
			if got, e := bench.Above(s, a.Name); !slices.Equal(got, above) || in[a.Name] != size || e != api.OK {
				t.Fatalf("%v: Above(%q) = %v, %d", s, a.Name, got, e)
			}
		}
	}
}

// P1, P17.1: with an error there is no other result, and the errors of the site come first.
func TestErrors(t *testing.T) {
	for i, c := range refusals() {
		b, e1 := bench.Find(c.s, "nobody")
		at, e2 := bench.At(c.s, v(-5, 0, 0))
		level, e3 := bench.Level(c.s, "nobody")
		rows, e4 := bench.Rows(c.s)
		above, e5 := bench.Above(c.s, "nobody")
		rest, e6 := bench.Rest(c.s, "nobody")
		for k, e := range []api.Errno{e1, e2, e3, e4, e5, e6} {
			if e != c.e {
				t.Errorf("refusal %d, function %d: %d, want %d", i, k, e, c.e)
			}
		}
		if b != (api.Block{}) || at != "" || level != 0 || rows != nil || above != nil || rest != 0 {
			t.Errorf("refusal %d: %v, %q, %d, %v, %v, %d", i, b, at, level, rows, above, rest)
		}
	}
}

// P1: the surveys of sites may have everything.
func TestSurveyOfSite(t *testing.T) {
	s := example()
	s.Survey.Open = [4]bool{true, true}
	s.Survey.Beds = []api.Bed{{Name: "a", Z: 50}}
	s.Survey.Joints = []api.Joint{{Name: "j", Axis: api.AxisY, At: 3, Lo: 0, Hi: 9}}
	if e := survey.Check(s.Survey); e != api.OK || bench.Check(s) != api.OK {
		t.Errorf("Check: %d, %d", e, bench.Check(s))
	}
	bench.Gap(bx(math.MinInt, math.MaxInt, 0, math.MaxInt, math.MinInt, 0), bx(math.MaxInt, 0, 0, math.MinInt, 0, 0))
}
