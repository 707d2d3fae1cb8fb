package model_test

import (
	"math"
	"math/rand"
	"slices"
	"strconv"
	"strings"
	"testing"

	"gangsaw/api"
	"gangsaw/model"
)

const top = api.MaxCoord

func v(x, y, z int) api.Vec { return api.Vec{X: x, Y: y, Z: z} }

func bx(x, y, z, x2, y2, z2 int) api.Box { return api.Box{Min: v(x, y, z), Max: v(x2, y2, z2)} }

func cube(lo, hi int) api.Box { return bx(lo, lo, lo, hi, hi, hi) }

func ev(source string, state int, b api.Box) api.Evidence {
	return api.Evidence{Source: source, Box: b, State: state}
}

// example is the evidence of the chapter's examples.
func example() []api.Evidence {
	return []api.Evidence{ev("a", api.Sound, cube(0, 10)), ev("b", api.Flawed, cube(5, 15))}
}

func states() []int { return []int{api.Unseen, api.Sound, api.Flawed, api.Clash} }

type refusal struct {
	list []api.Evidence
	e    api.Errno
}

// refusals are lists that are not valid. Each kind of error stands behind elements with later errors, too.
func refusals() []refusal {
	bad := func(change func(x *api.Evidence)) []api.Evidence {
		list := append(example(), ev("c", api.Sound, cube(1, 2)))
		change(&list[1])
		return list
	}
	list := []refusal{
		{make([]api.Evidence, api.MaxEvidence+1), api.ErrTooMany},
		{[]api.Evidence{{}}, api.ErrName},
		{append([]api.Evidence{ev("a", 7, cube(5, 5)), ev("b", 0, cube(0, top+1))}, ev("", 1, cube(0, 1))), api.ErrName},
		{append([]api.Evidence{ev("a", 7, cube(0, 1))}, ev("b", 1, cube(3, 3))), api.ErrInvalid},
		{append([]api.Evidence{ev("a", 7, cube(0, 1))}, ev("b", 1, cube(0, top+1)), ev("c", 1, cube(3, 3))), api.ErrRange},
		{append([]api.Evidence{ev("a", 7, cube(0, 1))}, ev("c", 1, cube(3, 3)), ev("b", 1, cube(0, top+1))), api.ErrInvalid},
	}
	for _, s := range []string{"", " a", "a ", " ", "a\"b", "\"", "a\tb", "a\x7f", "\x1f", "a\xc3\xa9", strings.Repeat("x", 41)} {
		list = append(list, refusal{bad(func(x *api.Evidence) { x.Source = s }), api.ErrName})
	}
	for _, s := range []int{api.Unseen, api.Clash, -1, 4, math.MaxInt, math.MinInt} {
		list = append(list, refusal{bad(func(x *api.Evidence) { x.State = s }), api.ErrInvalid})
	}
	for _, c := range []int{top + 1, -top - 1, math.MaxInt, math.MinInt} {
		list = append(list, refusal{bad(func(x *api.Evidence) { x.Box.Max.Y = c }), api.ErrRange}, refusal{bad(func(x *api.Evidence) { x.Box.Min.Z = c }), api.ErrRange})
	}
	return append(list, refusal{bad(func(x *api.Evidence) { x.Box.Max.X = 5 }), api.ErrInvalid})
}

// P15.1
func TestCheck(t *testing.T) {
	full := make([]api.Evidence, api.MaxEvidence)
	for i := range full {
		full[i] = ev("s", api.Flawed, cube(i, i+1))
	}
	for i, list := range [][]api.Evidence{
		nil, {}, example(), full,
		{ev(strings.Repeat("x", 40), api.Sound, cube(-top, top)), ev("!", api.Flawed, cube(0, 1)), ev("~ Z", api.Flawed, cube(0, 1)), ev("a  b", 1, cube(0, 1))},
	} {
		if e := model.Check(list); e != api.OK {
			t.Errorf("Check of list %d: %d", i, e)
		}
	}
	for i, c := range refusals() {
		if e := model.Check(c.list); e != c.e {
			t.Errorf("Check of refusal %d: %d, want %d", i, e, c.e)
		}
	}
}

// P15.1, P15.5
func TestJoin(t *testing.T) {
	join := func(a, b int) int {
		s, e := model.Join(a, b)
		if e != api.OK {
			t.Fatalf("Join(%d, %d): %d", a, b, e)
		}
		return s
	}
	for _, a := range states() {
		for _, b := range states() {
			want := api.Clash
			switch {
			case a == api.Unseen || a == b:
				want = b
			case b == api.Unseen:
				want = a
			}
			if got := join(a, b); got != want {
				t.Errorf("Join(%d, %d) = %d", a, b, got)
			}
			for _, c := range states() {
				if join(join(a, b), c) != join(a, join(b, c)) {
					t.Errorf("Join of %d, %d, %d", a, b, c)
				}
			}
		}
		for _, bad := range []int{-1, 4, math.MaxInt, math.MinInt} {
			for _, p := range [][2]int{{a, bad}, {bad, a}, {bad, bad}} {
				if s, e := model.Join(p[0], p[1]); s != 0 || e != api.ErrInvalid {
					t.Errorf("Join%v = %d, %d", p, s, e)
				}
			}
		}
	}
}

// P15.2
func TestCells(t *testing.T) {
	list := append(example(), ev("a", api.Sound, cube(4, 6)), ev("A", api.Sound, bx(5, 5, 5, 6, 6, 6)))
	for _, c := range []struct {
		cell    api.Vec
		state   int
		sources []string
	}{
		{v(5, 5, 5), api.Clash, []string{"A", "a", "b"}},
		{v(4, 5, 5), api.Sound, []string{"a"}},
		{v(9, 9, 9), api.Clash, []string{"a", "b"}},
		{v(10, 10, 10), api.Flawed, []string{"b"}},
		{v(15, 14, 14), api.Unseen, nil},
		{v(20, 0, 0), api.Unseen, nil},
		{v(-1, 0, 0), api.Unseen, nil},
		{v(0, 0, 0), api.Sound, []string{"a"}},
		{v(-top, -top, -top), api.Unseen, nil},
		{v(top-1, top-1, top-1), api.Unseen, nil},
	} {
		if s, e := model.State(list, c.cell); s != c.state || e != api.OK {
			t.Errorf("State(%v) = %d, %d", c.cell, s, e)
		}
		if s, e := model.Sources(list, c.cell); !slices.Equal(s, c.sources) || e != api.OK {
			t.Errorf("Sources(%v) = %v, %d", c.cell, s, e)
		}
	}
	if s, e := model.State([]api.Evidence{ev("x", api.Sound, cube(top-1, top))}, v(top-1, top-1, top-1)); s != api.Sound || e != api.OK {
		t.Errorf("State of the last cell: %d, %d", s, e)
	}
	for _, c := range []int{top, top + 1, -top - 1, math.MaxInt, math.MinInt} {
		for _, cell := range []api.Vec{v(c, 0, 0), v(0, c, 0), v(0, 0, c)} {
			if s, e := model.State(list, cell); s != 0 || e != api.ErrRange {
				t.Errorf("State(%v) = %d, %d", cell, s, e)
			}
			if s, e := model.Sources(list, cell); s != nil || e != api.ErrRange {
				t.Errorf("Sources(%v) = %v, %d", cell, s, e)
			}
		}
	}
}

// P15.3
func TestExampleVolumes(t *testing.T) {
	for _, c := range []struct {
		b      api.Box
		state  int
		volume int64
		first  api.Vec
	}{
		{cube(0, 10), api.Clash, 125, v(5, 5, 5)},
		{cube(0, 10), api.Sound, 875, v(0, 0, 0)},
		{cube(0, 10), api.Flawed, 0, v(0, 0, 0)},
		{cube(0, 10), api.Unseen, 0, v(0, 0, 0)},
		{cube(5, 10), api.Clash, 125, v(5, 5, 5)},
		{cube(-5, 20), api.Flawed, 875, v(10, 5, 5)},
		{cube(-5, 20), api.Unseen, 15625 - 1875, v(-5, -5, -5)},
		{cube(9, 20), api.Flawed, 215, v(10, 9, 9)},
		{cube(9, 20), api.Unseen, 1331 - 216, v(15, 9, 9)},
		{cube(9, 20), api.Clash, 1, v(9, 9, 9)},
		{cube(-top, top), api.Sound, 875, v(0, 0, 0)},
		{cube(-top, top), api.Unseen, 8*top*top*top - 1875, v(-top, -top, -top)},
	} {
		checkVolume(t, example(), c.b, c.state, c.volume, c.first)
	}
	checkVolume(t, nil, cube(3, 5), api.Unseen, 8, v(3, 3, 3))
	checkVolume(t, nil, cube(3, 5), api.Sound, 0, api.Vec{})
}

func checkVolume(t *testing.T, list []api.Evidence, b api.Box, state int, volume int64, first api.Vec) {
	t.Helper()
	if n, e := model.Volume(list, b, state); n != volume || e != api.OK {
		t.Fatalf("%v: Volume(%v, %d) = %d, %d, want %d", list, b, state, n, e, volume)
	}
	want := api.OK
	if volume == 0 {
		want, first = api.ErrNone, api.Vec{}
	}
	if c, e := model.First(list, b, state); c != first || e != want {
		t.Fatalf("%v: First(%v, %d) = %v, %d, want %v", list, b, state, c, e, first)
	}
	whole := int64(b.Max.X-b.Min.X) * int64(b.Max.Y-b.Min.Y) * int64(b.Max.Z-b.Min.Z)
	if all, e := model.All(list, b, state); all != (volume == whole) || e != api.OK {
		t.Fatalf("%v: All(%v, %d) = %v, %d", list, b, state, all, e)
	}
}

const side = 6

func randomBox(r *rand.Rand, side int) api.Box {
	ends := func() (int, int) {
		lo := r.Intn(side)
		return lo, lo + 1 + r.Intn(side-lo)
	}
	x, x2 := ends()
	y, y2 := ends()
	z, z2 := ends()
	return bx(x, y, z, x2, y2, z2)
}

func randomList(r *rand.Rand, most int) []api.Evidence {
	var list []api.Evidence
	for range r.Intn(most + 1) {
		list = append(list, ev(strconv.Itoa(r.Intn(4)), 1+r.Intn(2), randomBox(r, side)))
	}
	return list
}

func has(b api.Box, p api.Vec) bool {
	return b.Min.X <= p.X && p.X < b.Max.X && b.Min.Y <= p.Y && p.Y < b.Max.Y && b.Min.Z <= p.Z && p.Z < b.Max.Z
}

// stateOf is the state of a cell by definition.
func stateOf(list []api.Evidence, cell api.Vec) int {
	sound, flawed := false, false
	for _, x := range list {
		if has(x.Box, cell) {
			sound = sound || x.State == api.Sound
			flawed = flawed || x.State == api.Flawed
		}
	}
	switch {
	case sound && flawed:
		return api.Clash
	case sound:
		return api.Sound
	case flawed:
		return api.Flawed
	}
	return api.Unseen
}

func eachCell(b api.Box, visit func(c api.Vec)) {
	for z := b.Min.Z; z < b.Max.Z; z++ {
		for y := b.Min.Y; y < b.Max.Y; y++ {
			for x := b.Min.X; x < b.Max.X; x++ {
				visit(v(x, y, z))
			}
		}
	}
}

// P15.2, P15.3, P15.5: cell by cell.
func TestAgainstCells(t *testing.T) {
	r := rand.New(rand.NewSource(1))
	for range 2000 {
		list, b := randomList(r, 8), randomBox(r, side+1)
		var volumes [4]int64
		var firsts [4]api.Vec
		eachCell(b, func(c api.Vec) {
			s := stateOf(list, c)
			if volumes[s] == 0 {
				firsts[s] = c
			}
			volumes[s]++
			if got, e := model.State(list, c); got != s || e != api.OK {
				t.Fatalf("%v: State(%v) = %d, %d", list, c, got, e)
			}
		})
		for s := range volumes {
			checkVolume(t, list, b, s, volumes[s], firsts[s])
		}
	}
}

// P15.4, P15.5
func TestClashes(t *testing.T) {
	r := rand.New(rand.NewSource(2))
	for range 3000 {
		list := randomList(r, 6)
		var want [][2]int
		for i, a := range list {
			for k := i + 1; k < len(list); k++ {
				common := false
				eachCell(a.Box, func(c api.Vec) { common = common || has(list[k].Box, c) })
				if common && a.State != list[k].State {
					want = append(want, [2]int{i, k})
				}
			}
		}
		got, e := model.Clashes(list)
		if !slices.Equal(got, want) || e != api.OK {
			t.Fatalf("Clashes(%v) = %v, %d, want %v", list, got, e, want)
		}
		if n, _ := model.Volume(list, cube(0, side), api.Clash); n > 0 != (len(want) > 0) {
			t.Fatalf("%v: %d cells with Clash", list, n)
		}
	}
	if got, e := model.Clashes(example()); !slices.Equal(got, [][2]int{{0, 1}}) || e != api.OK {
		t.Errorf("Clashes of the example: %v, %d", got, e)
	}
	touching := []api.Evidence{ev("a", 1, cube(0, 5)), ev("b", 2, bx(5, 0, 0, 9, 5, 5)), ev("a", 2, bx(0, 0, 4, 1, 1, 9))}
	if got, e := model.Clashes(touching); !slices.Equal(got, [][2]int{{0, 2}}) || e != api.OK {
		t.Errorf("Clashes of what touches: %v, %d", got, e)
	}
}

// P15.4
func TestWithout(t *testing.T) {
	a, b := example()[0], example()[1]
	list := []api.Evidence{a, b, a, b, a}
	for _, c := range []struct {
		source string
		want   []api.Evidence
	}{
		{"a", []api.Evidence{b, b}}, {"b", []api.Evidence{a, a, a}}, {"", list}, {"c", list}, {"A", list},
	} {
		got, e := model.Without(list, c.source)
		if !slices.Equal(got, c.want) || e != api.OK {
			t.Errorf("Without(%q) = %v, %d", c.source, got, e)
		}
	}
	kept, _ := model.Without(list, "")
	kept[0] = b
	if list[0] != a {
		t.Error("the result of Without shares memory with the list")
	}
}

// P15.4, P15.5
func TestUseless(t *testing.T) {
	r := rand.New(rand.NewSource(3))
	for range 1500 {
		list := randomList(r, 7)
		before := slices.Clone(list)
		for i := range list {
			others := slices.Delete(slices.Clone(list), i, i+1)
			want := true
			eachCell(cube(0, side), func(c api.Vec) { want = want && stateOf(list, c) == stateOf(others, c) })
			if got, e := model.Useless(list, i); got != want || e != api.OK {
				t.Fatalf("Useless(%v, %d) = %v, %d", list, i, got, e)
			}
			if got, e := model.Useless(append(slices.Clone(list), list[i]), i); !got || e != api.OK {
				t.Fatalf("evidence that is given twice is of use: %v, %d", list, i)
			}
		}
		if !slices.Equal(list, before) {
			t.Fatalf("Useless changed %v", before)
		}
	}
	list := append(example(), ev("c", api.Sound, cube(0, 10)))
	for i, want := range []bool{true, false, true} {
		if got, e := model.Useless(list, i); got != want || e != api.OK {
			t.Errorf("Useless(%d) = %v, %d", i, got, e)
		}
	}
	for _, i := range []int{-1, 3, math.MaxInt, math.MinInt} {
		if got, e := model.Useless(list, i); got || e != api.ErrRange {
			t.Errorf("Useless(%d) = %v, %d", i, got, e)
		}
	}
	if got, e := model.Useless(nil, 0); got || e != api.ErrRange {
		t.Errorf("Useless of nothing: %v, %d", got, e)
	}
}

// P15.5: order and repetition do not matter, and further evidence raises states.
func TestProperties(t *testing.T) {
	r := rand.New(rand.NewSource(4))
	for range 500 {
		list := randomList(r, 6)
		mixed := append(slices.Clone(list), list...)
		r.Shuffle(len(mixed), func(i, k int) { mixed[i], mixed[k] = mixed[k], mixed[i] })
		more := append(slices.Clone(list), randomList(r, 3)...)
		b := randomBox(r, side)
		for _, s := range states() {
			n, _ := model.Volume(list, b, s)
			if m, _ := model.Volume(mixed, b, s); n != m {
				t.Fatalf("%v and %v differ in the volume of %d", list, mixed, s)
			}
		}
		eachCell(b, func(c api.Vec) {
			old, _ := model.State(list, c)
			raised, _ := model.State(more, c)
			if both, _ := model.Join(old, raised); both != raised {
				t.Fatalf("%v: the state %d of %v became %d", more, old, c, raised)
			}
		})
	}
}

// P1: with an error there is no other result, and the errors of the list come first.
func TestRefusals(t *testing.T) {
	for i, c := range refusals() {
		for name, f := range map[string]func() (bool, api.Errno){
			"State":   func() (bool, api.Errno) { s, e := model.State(c.list, v(top, 0, 0)); return s == 0, e },
			"Volume":  func() (bool, api.Errno) { n, e := model.Volume(c.list, cube(1, 1), 9); return n == 0, e },
			"First":   func() (bool, api.Errno) { p, e := model.First(c.list, cube(1, 1), 9); return p == api.Vec{}, e },
			"All":     func() (bool, api.Errno) { all, e := model.All(c.list, cube(1, 1), 9); return !all, e },
			"Sources": func() (bool, api.Errno) { l, e := model.Sources(c.list, v(top, 0, 0)); return l == nil, e },
			"Clashes": func() (bool, api.Errno) { l, e := model.Clashes(c.list); return l == nil, e },
			"Without": func() (bool, api.Errno) { l, e := model.Without(c.list, "a"); return l == nil, e },
			"Useless": func() (bool, api.Errno) { is, e := model.Useless(c.list, 99999); return !is, e },
		} {
			if zero, e := f(); !zero || e != c.e {
				t.Errorf("%s of refusal %d: %v, %d, want %d", name, i, zero, e, c.e)
			}
		}
	}
	for _, c := range []struct {
		b     api.Box
		state int
		e     api.Errno
	}{
		{cube(0, top+1), 9, api.ErrRange}, {cube(5, 5), 9, api.ErrInvalid}, {bx(0, 0, 0, -1, 1, 1), 1, api.ErrInvalid},
		{bx(math.MinInt, 0, 0, math.MaxInt, 1, 1), 1, api.ErrRange}, {cube(0, 9), 4, api.ErrInvalid}, {cube(0, 9), -1, api.ErrInvalid}, {cube(0, 9), math.MinInt, api.ErrInvalid},
	} {
		if n, e := model.Volume(example(), c.b, c.state); n != 0 || e != c.e {
			t.Errorf("Volume(%v, %d) = %d, %d", c.b, c.state, n, e)
		}
		if p, e := model.First(example(), c.b, c.state); p != (api.Vec{}) || e != c.e {
			t.Errorf("First(%v, %d) = %v, %d", c.b, c.state, p, e)
		}
		if all, e := model.All(example(), c.b, c.state); all || e != c.e {
			t.Errorf("All(%v, %d) = %v, %d", c.b, c.state, all, e)
		}
	}
}

// P1: as much evidence as is allowed, with many coordinates.
func TestCrowd(t *testing.T) {
	list := make([]api.Evidence, api.MaxEvidence)
	for i := range list {
		list[i] = ev("s", 1+i%2, cube(-top+i, top-i))
	}
	var total int64
	for _, s := range states() {
		n, e := model.Volume(list, cube(-top, top), s)
		if e != api.OK {
			t.Fatal(e)
		}
		total += n
	}
	if total != 8*top*top*top {
		t.Errorf("the volumes add up to %d", total)
	}
	if c, e := model.First(list, cube(-top, top), api.Clash); c != v(1-top, 1-top, 1-top) || e != api.OK {
		t.Errorf("First = %v, %d", c, e)
	}
}
