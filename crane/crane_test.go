package crane_test

import (
	"fmt"
	"math"
	"math/big"
	"math/rand"
	"slices"
	"testing"

	"gangsaw/api"
	"gangsaw/crane"
)

const top = api.MaxCoord

func v(x, y, z int) api.Vec { return api.Vec{X: x, Y: y, Z: z} }

func bx(x, y, z, x2, y2, z2 int) api.Box { return api.Box{Min: v(x, y, z), Max: v(x2, y2, z2)} }

func block(name string, b api.Box) api.Block { return api.Block{Name: name, Box: b} }

// at returns a box of the size 2 with a centre.
func at(x, y int) api.Box { return bx(x-1, y-1, 0, x+1, y+1, 2) }

func stand(name string, x, y int, steps ...int64) api.Stand {
	s := api.Stand{Name: name, At: api.Point{X: x, Y: y}}
	for i := 0; i < len(steps); i += 2 {
		s.Radii = append(s.Radii, int(steps[i]))
		s.Limits = append(s.Limits, steps[i+1])
	}
	return s
}

// example is the stand of the chapter's second example.
func example() api.Stand { return stand("a", 0, 0, 10000, 9000000, 20000, 5000000) }

type refusal struct {
	s api.Stand
	e api.Errno
}

// refusals are stands that are not valid.
func refusals() []refusal {
	with := func(change func(s *api.Stand)) api.Stand {
		s := stand("a", 1, 2, 10, 30, 20, 20, 30, 20)
		change(&s)
		return s
	}
	list := []refusal{
		{api.Stand{}, api.ErrName},
		{with(func(s *api.Stand) { s.Name = "A"; s.Radii = nil }), api.ErrName},
		{with(func(s *api.Stand) { s.Name = "a b" }), api.ErrName},
		{with(func(s *api.Stand) { s.Radii, s.Limits = nil, nil }), api.ErrInvalid},
		{with(func(s *api.Stand) { s.Limits = s.Limits[:2]; s.At.X = top + 1 }), api.ErrInvalid},
		{with(func(s *api.Stand) { s.Limits = append(s.Limits, 1) }), api.ErrInvalid},
		{with(func(s *api.Stand) { s.Limits = nil }), api.ErrInvalid},
		{with(func(s *api.Stand) { s.Radii, s.Limits = make([]int, 17), make([]int64, 17) }), api.ErrInvalid},
		{with(func(s *api.Stand) { s.Radii[0] = 0 }), api.ErrRange},
		{with(func(s *api.Stand) { s.Radii[0] = -5 }), api.ErrRange},
		{with(func(s *api.Stand) { s.Radii[2] = crane.MaxRadius + 1 }), api.ErrRange},
		{with(func(s *api.Stand) { s.Radii[2] = math.MaxInt }), api.ErrRange},
		{with(func(s *api.Stand) { s.Radii[1] = 10 }), api.ErrRange},
		{with(func(s *api.Stand) { s.Radii[2] = 19 }), api.ErrRange},
		{with(func(s *api.Stand) { s.Limits[0] = 1e15 + 1 }), api.ErrRange},
		{with(func(s *api.Stand) { s.Limits[2] = -1 }), api.ErrRange},
		{with(func(s *api.Stand) { s.Limits[1] = 31 }), api.ErrRange},
		{with(func(s *api.Stand) { s.Limits[2] = 21 }), api.ErrRange},
		{with(func(s *api.Stand) { s.Limits[0] = math.MinInt64 }), api.ErrRange},
	}
	for _, n := range []int{top + 1, -top - 1, math.MaxInt, math.MinInt} {
		list = append(list, refusal{with(func(s *api.Stand) { s.At.X = n }), api.ErrRange}, refusal{with(func(s *api.Stand) { s.At.Y = n }), api.ErrRange})
	}
	return list
}

func many(n int) []api.Stand {
	var list []api.Stand
	for i := range n {
		list = append(list, stand(fmt.Sprintf("s%02d", i), 0, 0, 1, 0))
	}
	return list
}

// P19.1
func TestCheck(t *testing.T) {
	long := stand("long", top, -top)
	for i := range 16 {
		long.Radii = append(long.Radii, crane.MaxRadius-15+i)
		long.Limits = append(long.Limits, 1e15)
	}
	for i, list := range [][]api.Stand{nil, {example()}, many(16), {long}, {stand("a", -top, top, 1, 0), stand("b", 0, 0, 1, 1, 2, 0)}} {
		if e := crane.Check(list); e != api.OK {
			t.Errorf("Check of list %d: %d", i, e)
		}
	}
	for i, c := range refusals() {
		if e := crane.Check([]api.Stand{example(), c.s}); e != c.e {
			t.Errorf("Check of refusal %d: %d, want %d", i, e, c.e)
		}
	}
	for i, c := range []struct {
		list []api.Stand
		e    api.Errno
	}{
		{make([]api.Stand, 17), api.ErrTooMany}, {many(17), api.ErrTooMany},
		{[]api.Stand{stand("a", 0, 0), stand("B", 0, 0, 1, 1)}, api.ErrName},
		{[]api.Stand{stand("a", top+1, 0, 1, 1), stand("b", 0, 0)}, api.ErrInvalid},
		{[]api.Stand{stand("b", 0, 0, 1, 1), stand("a", top+1, 0, 1, 1)}, api.ErrRange},
		{[]api.Stand{stand("b", 0, 0, 1, 1), stand("a", 0, 0, 1, 1)}, api.ErrDuplicate},
		{[]api.Stand{stand("a", 0, 0, 1, 1), stand("a", 5, 0, 1, 1)}, api.ErrDuplicate},
	} {
		if e := crane.Check(c.list); e != c.e {
			t.Errorf("Check of list %d: %d, want %d", i, e, c.e)
		}
	}
}

// P19.1
func TestMass(t *testing.T) {
	for _, c := range []struct {
		b       api.Box
		density int
		want    int64
	}{
		{bx(0, 0, 0, 2000, 1000, 1500), 2700, 8100000},
		{bx(0, 0, 0, 1, 1, 1), 10000, 0},
		{bx(0, 0, 0, 10, 10, 1), 9999, 0},
		{bx(0, 0, 0, 10, 10, 1), 10000, 1},
		{bx(-5, 0, 0, 5, 10, 3), 6667, 2},
		{bx(0, 0, 0, 100, 100, 100), 1, 1},
		{bx(-top, -top, -top, top, top, top), 1, 8000000000000},
		{bx(-top, -top, -top, top, top, top), 10000, 80000000000000000},
		{bx(-top, -top, -top, top, top, top-1), 9999, 79991960004000000},
	} {
		if got, e := crane.Mass(c.b, c.density); got != c.want || e != api.OK {
			t.Errorf("Mass(%v, %d) = %d, %d", c.b, c.density, got, e)
		}
	}
	r := rand.New(rand.NewSource(1))
	for range 2000 {
		x, y, z := 1+r.Intn(2*top), 1+r.Intn(2*top), 1+r.Intn(2*top)
		density := 1 + r.Intn(10000)
		want := big.NewInt(int64(x))
		want.Mul(want, big.NewInt(int64(y))).Mul(want, big.NewInt(int64(z))).Mul(want, big.NewInt(int64(density))).Quo(want, big.NewInt(1000000))
		if got, e := crane.Mass(bx(-top, -top, -top, x-top, y-top, z-top), density); got != want.Int64() || e != api.OK {
			t.Fatalf("Mass of %d, %d, %d with %d: %d, %d", x, y, z, density, got, e)
		}
	}
}

// P19.5: masses of parts, and of boxes within others.
func TestMassOfParts(t *testing.T) {
	r := rand.New(rand.NewSource(2))
	for range 2000 {
		b := bx(0, 0, 0, 2+r.Intn(300), 1+r.Intn(300), 1+r.Intn(300))
		density := 1 + r.Intn(10000)
		left, right := b, b
		left.Max.X = 1 + r.Intn(b.Max.X-1)
		right.Min.X = left.Max.X
		whole, _ := crane.Mass(b, density)
		m, _ := crane.Mass(left, density)
		n, _ := crane.Mass(right, density)
		if m > whole || m+n != whole && m+n != whole-1 {
			t.Fatalf("the masses of %v and %v are %d and %d, together %d", left, right, m, n, whole)
		}
	}
}

// P19.1
func TestGap(t *testing.T) {
	for _, c := range []struct {
		x, y int
		b    api.Box
		want int64
	}{
		{0, 0, at(6000, 8000), 400000000},
		{0, 0, bx(0, 0, 0, 1, 1, 1), 2},
		{0, 0, bx(0, 0, 0, 1, 2, 9), 5},
		{3, 4, bx(0, 0, 0, 1, 2, 9), 25 + 36},
		{-3, -4, bx(-7, -9, 0, -6, -2, 9), 49 + 9},
		{top, -top, bx(-top, top-1, 0, 1-top, top, 1), 2 * (4*top - 1) * (4*top - 1)},
	} {
		if got, e := crane.Gap(api.Point{X: c.x, Y: c.y}, c.b); got != c.want || e != api.OK {
			t.Errorf("Gap(%d, %d, %v) = %d, %d", c.x, c.y, c.b, got, e)
		}
	}
	for _, n := range []int{top + 1, -top - 1, math.MaxInt, math.MinInt} {
		for _, p := range []api.Point{{X: n}, {Y: n}} {
			if got, e := crane.Gap(p, bx(0, 0, 0, 0, 0, 0)); got != 0 || e != api.ErrRange {
				t.Errorf("Gap(%v) = %d, %d", p, got, e)
			}
		}
	}
	if got, e := crane.Gap(api.Point{}, bx(0, 0, 0, 1, 0, 1)); got != 0 || e != api.ErrInvalid {
		t.Errorf("Gap of an empty box: %d, %d", got, e)
	}
	if got, e := crane.Gap(api.Point{}, bx(0, 0, 0, 1, top+1, 1)); got != 0 || e != api.ErrRange {
		t.Errorf("Gap of a far box: %d, %d", got, e)
	}
}

// P19.2
func TestCapacity(t *testing.T) {
	for _, c := range []struct {
		b    api.Box
		want int64
		e    api.Errno
	}{
		{at(0, 0), 9000000, api.OK},
		{at(6000, 8000), 9000000, api.OK},
		{at(6001, 8000), 5000000, api.OK},
		{bx(5999, 7999, 0, 6002, 8001, 1), 5000000, api.OK},
		{at(-12000, -16000), 5000000, api.OK},
		{at(-12000, -16001), 0, api.ErrNone},
		{bx(-12001, -16001, 0, -12000, -16000, 1), 0, api.ErrNone},
	} {
		if got, e := crane.Capacity(example(), c.b); got != c.want || e != c.e {
			t.Errorf("Capacity(%v) = %d, %d", c.b, got, e)
		}
	}
	if got, e := crane.Capacity(stand("a", 0, 0, 5, 0), at(3, 4)); got != 0 || e != api.OK {
		t.Errorf("Capacity 0: %d, %d", got, e)
	}
}

// P19.2
func TestLifts(t *testing.T) {
	b := bx(-500, -500, 0, 500, 500, 1000)
	far := bx(10000, -500, 0, 11000, 500, 1000)
	for _, c := range []struct {
		b       api.Box
		density int
		want    bool
	}{
		{b, 9000, true}, {b, 9001, false}, {b, 1, true}, {far, 5000, true}, {far, 5001, false}, {at(20001, 0), 1, false},
	} {
		if got, e := crane.Lifts(example(), c.b, c.density); got != c.want || e != api.OK {
			t.Errorf("Lifts(%v, %d) = %v, %d", c.b, c.density, got, e)
		}
	}
	if got, e := crane.Lifts(stand("a", 0, 0, 5, 0), at(0, 0), 1); !got || e != api.OK {
		t.Errorf("Lifts of 0 grams: %v, %d", got, e)
	}
}

// P19.3
func TestChoose(t *testing.T) {
	stands := []api.Stand{stand("a", 0, 0, 100, 50), stand("b", 10, 0, 5, 90, 100, 60), stand("c", 20, 0, 5, 90, 100, 40), stand("d", 20, 0, 100, 60)}
	b := func(x int) api.Box { return bx(x-50, -50, 0, x+50, 50, 100) } // a mass of 1 for each unit of the density
	for _, c := range []struct {
		x, density, want int
		e                api.Errno
	}{
		{0, 50, 1, api.OK}, {0, 60, 1, api.OK}, {0, 61, 0, api.ErrNone}, {10, 90, 1, api.OK}, {20, 90, 2, api.OK}, {20, 10, 2, api.OK},
		{120, 40, 3, api.OK}, {121, 40, 0, api.ErrNone}, {-100, 50, 0, api.OK}, {-100, 51, 0, api.ErrNone}, {15, 10, 1, api.OK}, {112, 60, 3, api.OK},
	} {
		if got, e := crane.Choose(stands, b(c.x), c.density); got != c.want || e != c.e {
			t.Errorf("Choose(%d, %d) = %d, %d", c.x, c.density, got, e)
		}
	}
	if got, e := crane.Choose(nil, b(0), 1); got != 0 || e != api.ErrNone {
		t.Errorf("Choose of none: %d, %d", got, e)
	}
}

// P19.4
func TestMissingAndCover(t *testing.T) {
	for i, c := range []struct {
		stands  []api.Stand
		at      []int
		missing []string
		cover   []int
	}{
		{nil, []int{0, 1}, []string{"0", "1"}, nil},
		{[]api.Stand{stand("a", 0, 0, 5, 9)}, nil, nil, nil},
		{[]api.Stand{stand("a", 0, 0, 5, 9)}, []int{9}, []string{"9"}, nil},
		{[]api.Stand{stand("a", 0, 0, 5, 9), stand("b", 0, 0, 5, 9)}, []int{1, 9, 2}, []string{"9"}, []int{0}},
		{[]api.Stand{stand("a", 0, 0, 5, 9), stand("b", 5, 0, 4, 9), stand("c", 10, 0, 5, 9)}, []int{0, 10, 5}, nil, []int{0, 2}},
		{[]api.Stand{stand("a", 0, 0, 5, 9), stand("b", 5, 0, 9, 9), stand("c", 10, 0, 5, 9)}, []int{0, 10, 5}, nil, []int{1}},
		{[]api.Stand{stand("a", 0, 0, 4, 9), stand("b", 5, 0, 4, 9), stand("c", 10, 0, 4, 9), stand("d", 5, 0, 4, 9)}, []int{0, 10, 5}, nil, []int{0, 1, 2}},
		{[]api.Stand{stand("a", 30, 0, 4, 9), stand("b", 0, 0, 4, 9), stand("c", 0, 0, 14, 9)}, []int{10, 0, 30, 50}, []string{"50"}, []int{0, 2}},
		{[]api.Stand{stand("a", 0, 0, 1, 9), stand("b", 10, 0, 10, 9), stand("c", 20, 0, 10, 9), stand("d", 30, 0, 1, 9)}, []int{0, 10, 20, 30}, nil, []int{0, 2}},
		{[]api.Stand{stand("a", 0, 0, 10, 9), stand("b", 0, 0, 11, 9), stand("c", 20, 0, 11, 9), stand("d", 20, 0, 10, 9)}, []int{0, 20}, nil, []int{0, 2}},
	} {
		var blocks []api.Block
		for _, x := range c.at {
			blocks = append(blocks, block(fmt.Sprint(x), at(x, 0)))
		}
		if got, e := crane.Missing(c.stands, blocks, 1); !slices.Equal(got, c.missing) || e != api.OK {
			t.Errorf("%d: Missing = %v, %d", i, got, e)
		}
		if got, e := crane.Cover(c.stands, blocks, 1); !slices.Equal(got, c.cover) || e != api.OK {
			t.Errorf("%d: Cover = %v, %d", i, got, e)
		}
	}
}

// coverByTrial returns the first one of the least covers.
func coverByTrial(lifted [][]bool, stands int) []int {
	var best []int
	found := false
	var choose func(from int, chosen []int)
	choose = func(from int, chosen []int) {
		for _, by := range lifted {
			if slices.Contains(by, true) && !slices.ContainsFunc(chosen, func(i int) bool { return by[i] }) {
				goto extend
			}
		}
		if !found || len(chosen) < len(best) || len(chosen) == len(best) && slices.Compare(chosen, best) < 0 {
			best, found = slices.Clone(chosen), true
		}
	extend:
		for i := from; i < stands; i++ {
			choose(i+1, append(slices.Clone(chosen), i))
		}
	}
	choose(0, nil)
	return best
}

// P19.2 to P19.5: random stands and blocks.
func TestAgainstDefinitions(t *testing.T) {
	r := rand.New(rand.NewSource(3))
	for range 600 {
		var stands []api.Stand
		for i := range r.Intn(8) {
			s := stand(fmt.Sprintf("s%d", i), r.Intn(20), r.Intn(20), int64(1+r.Intn(6)), int64(100+r.Intn(900)))
			s.Radii, s.Limits = append(s.Radii, s.Radii[0]+1+r.Intn(6)), append(s.Limits, int64(r.Intn(100)))
			stands = append(stands, s)
		}
		density := 1 + r.Intn(10000)
		var blocks []api.Block
		var missing []string
		lifted := make([][]bool, r.Intn(8))
		for i := range lifted {
			x, y := r.Intn(20), r.Intn(20)
			b := block(fmt.Sprintf("b%d", i), bx(x, y, 0, x+1+r.Intn(40), y+1+r.Intn(40), 1+r.Intn(60)))
			blocks = append(blocks, b)
			lifted[i] = make([]bool, len(stands))
			mass, _ := crane.Mass(b.Box, density)
			best, margin := 0, int64(-1)
			for k, s := range stands {
				gap, _ := crane.Gap(s.At, b.Box)
				limit := int64(-1)
				for n := range s.Radii {
					if limit < 0 && 4*int64(s.Radii[n])*int64(s.Radii[n]) >= gap {
						limit = s.Limits[n]
					}
				}
				lifted[i][k] = limit >= mass
				if limit-mass > margin {
					best, margin = k, limit-mass
				}
				if got, e := crane.Lifts(s, b.Box, density); got != lifted[i][k] || e != api.OK {
					t.Fatalf("Lifts(%v, %v, %d) = %v, %d", s, b.Box, density, got, e)
				}
			}
			want := api.OK
			if !slices.Contains(lifted[i], true) {
				missing = append(missing, b.Name)
				want = api.ErrNone
			}
			if got, e := crane.Choose(stands, b.Box, density); got != best || e != want {
				t.Fatalf("Choose(%v, %v, %d) = %d, %d, want %d", stands, b.Box, density, got, e, best)
			}
		}
		if got, e := crane.Missing(stands, blocks, density); !slices.Equal(got, missing) || e != api.OK {
			t.Fatalf("Missing(%v, %v, %d) = %v, %d", stands, blocks, density, got, e)
		}
		if got, e := crane.Cover(stands, blocks, density); !slices.Equal(got, coverByTrial(lifted, len(stands))) || e != api.OK {
			t.Fatalf("Cover(%v, %v, %d) = %v, %d", stands, blocks, density, got, e)
		}
	}
}

// P1: each error, and which one comes first.
func TestErrors(t *testing.T) {
	good, empty, far := at(0, 0), bx(0, 0, 0, 0, 1, 1), bx(0, 0, 0, 1, 1, top+1)
	for i, c := range refusals() {
		n, e1 := crane.Capacity(c.s, empty)
		is, e2 := crane.Lifts(c.s, empty, 0)
		if n != 0 || is || e1 != c.e || e2 != c.e {
			t.Errorf("refusal %d: %d, %d, %v, %d", i, n, e1, is, e2)
		}
		list := []api.Stand{c.s}
		k, e3 := crane.Choose(list, empty, 0)
		missing, e4 := crane.Missing(list, make([]api.Block, 257), 0)
		cover, e5 := crane.Cover(list, make([]api.Block, 257), 0)
		if k != 0 || missing != nil || cover != nil || e3 != c.e || e4 != c.e || e5 != c.e {
			t.Errorf("refusal %d: %d, %d, %v, %d, %v, %d", i, k, e3, missing, e4, cover, e5)
		}
	}
	twice := []api.Stand{example(), example()}
	for i, c := range []struct {
		stands  []api.Stand
		blocks  []api.Block
		density int
		e       api.Errno
	}{
		{twice, []api.Block{block("a", empty)}, 0, api.ErrDuplicate},
		{many(17), []api.Block{block("a", empty)}, 0, api.ErrTooMany},
		{many(2), []api.Block{block("a", good), block("b", empty), block("c", far)}, 0, api.ErrInvalid},
		{many(2), []api.Block{block("a", good), block("b", far), block("c", empty)}, 0, api.ErrRange},
		{many(2), []api.Block{block("a", good)}, 0, api.ErrRange},
		{many(2), []api.Block{block("a", good)}, 10001, api.ErrRange},
		{many(2), nil, -1, api.ErrRange},
		{many(2), make([]api.Block, 257), 0, api.ErrTooMany},
	} {
		missing, e := crane.Missing(c.stands, c.blocks, c.density)
		cover, f := crane.Cover(c.stands, c.blocks, c.density)
		if missing != nil || cover != nil || e != c.e || f != c.e {
			t.Errorf("lists %d: %v, %d, %v, %d", i, missing, e, cover, f)
		}
		if len(c.blocks) == 1 {
			if k, e := crane.Choose(c.stands, c.blocks[0].Box, c.density); k != 0 || e != c.e {
				t.Errorf("lists %d: Choose = %d, %d", i, k, e)
			}
		}
	}
	for _, c := range []struct {
		b       api.Box
		density int
		e       api.Errno
	}{
		{empty, 0, api.ErrInvalid}, {far, 0, api.ErrRange}, {good, 0, api.ErrRange}, {good, 10001, api.ErrRange}, {good, math.MinInt, api.ErrRange}, {good, math.MaxInt, api.ErrRange},
	} {
		if m, e := crane.Mass(c.b, c.density); m != 0 || e != c.e {
			t.Errorf("Mass(%v, %d) = %d, %d", c.b, c.density, m, e)
		}
		if is, e := crane.Lifts(example(), c.b, c.density); is || e != c.e {
			t.Errorf("Lifts(%v, %d) = %v, %d", c.b, c.density, is, e)
		}
	}
	for _, b := range []api.Box{empty, far} {
		want := map[api.Box]api.Errno{empty: api.ErrInvalid, far: api.ErrRange}[b]
		if n, e := crane.Capacity(example(), b); n != 0 || e != want {
			t.Errorf("Capacity(%v) = %d, %d", b, n, e)
		}
	}
}

// P1: as many stands and blocks as are allowed.
func TestCrowd(t *testing.T) {
	stands := many(16)
	var blocks []api.Block
	for i := range stands {
		stands[i].At.X = 10 * i
		blocks = append(blocks, block(fmt.Sprint(i), at(10*i, 0)))
	}
	for len(blocks) < 256 {
		blocks = append(blocks, block("X y", at(500, 0)))
	}
	cover, e := crane.Cover(stands, blocks, 1)
	missing, f := crane.Missing(stands, blocks, 1)
	if len(cover) != 16 || len(missing) != 240 || e != api.OK || f != api.OK {
		t.Errorf("Cover = %v, %d; %d are missing, %d", cover, e, len(missing), f)
	}
}
