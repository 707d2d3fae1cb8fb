package replace_test

import (
	"math"
	"math/rand"
	"reflect"
	"slices"
	"testing"

	"gangsaw/api"
	"gangsaw/replace"
)

type change = replace.Change

func plan(pieces int, uses []int, fits ...[]int) replace.Plan {
	return replace.Plan{Fits: fits, Pieces: pieces, Uses: uses, Fixed: make([]bool, len(fits))}
}

// example is the plan of the chapter's examples, with the pieces that the stones use.
func example(uses ...int) replace.Plan {
	return plan(3, uses, []int{0, 1}, []int{1, 2}, []int{2})
}

// P48.1 to P48.4: the examples.
func TestExamples(t *testing.T) {
	if got, e := replace.Repair(example(0, 1, -1), 2); !slices.Equal(got, []change{{2, -1, 2}}) || e != api.OK {
		t.Errorf("Repair = %v, %d", got, e)
	}
	p := example(0, 2, -1)
	if got, e := replace.Repair(p, 2); !slices.Equal(got, []change{{2, -1, 2}, {1, 2, 1}}) || e != api.OK {
		t.Errorf("Repair = %v, %d", got, e)
	}
	if stones, pieces, e := replace.Refusal(p, 2); stones != nil || pieces != nil || e != api.ErrNone {
		t.Errorf("Refusal = %v, %v, %d", stones, pieces, e)
	}
	p.Fixed[1] = true
	if got, e := replace.Repair(p, 2); got != nil || e != api.ErrNone {
		t.Errorf("Repair = %v, %d", got, e)
	}
	if stones, pieces, e := replace.Refusal(p, 2); !slices.Equal(stones, []int{2}) || !slices.Equal(pieces, []int{2}) || e != api.OK || !replace.Refutes(p, 2, stones, pieces) {
		t.Errorf("Refusal = %v, %v, %d", stones, pieces, e)
	}
	broken, e := replace.Break(example(0, 1, -1), 0)
	if !reflect.DeepEqual(broken, plan(3, []int{-1, 1, -1}, []int{1}, []int{1, 2}, []int{2})) || e != api.OK {
		t.Errorf("Break = %v, %d", broken, e)
	}
	if got, e := replace.Repair(broken, 0); !slices.Equal(got, []change{{0, -1, 1}, {1, 1, 2}}) || e != api.OK {
		t.Errorf("Repair = %v, %d", got, e)
	}
	if got, e := replace.Free(example(0, 2, -1)); !slices.Equal(got, []int{1}) || e != api.OK {
		t.Errorf("Free = %v, %d", got, e)
	}
}

// P48.1, P1: each error, and which one comes first.
func TestErrors(t *testing.T) {
	with := func(change func(p *replace.Plan)) replace.Plan {
		p := example(0, 2, -1)
		change(&p)
		return p
	}
	for i, c := range []struct {
		p replace.Plan
		e api.Errno
	}{
		{with(func(p *replace.Plan) { p.Fits = make([][]int, 65) }), api.ErrTooMany}, {with(func(p *replace.Plan) { p.Pieces, p.Uses = 65, nil }), api.ErrTooMany}, {with(func(p *replace.Plan) { p.Pieces, p.Uses = -1, nil }), api.ErrTooMany}, {with(func(p *replace.Plan) { p.Pieces = math.MinInt }), api.ErrTooMany},
		{with(func(p *replace.Plan) { p.Uses = p.Uses[:2] }), api.ErrInvalid}, {with(func(p *replace.Plan) { p.Uses = append(p.Uses, -1) }), api.ErrInvalid}, {with(func(p *replace.Plan) { p.Fixed = nil }), api.ErrInvalid},
		{with(func(p *replace.Plan) { p.Fits[0] = []int{1, 0} }), api.ErrInvalid}, {with(func(p *replace.Plan) { p.Fits[0] = []int{0, 0} }), api.ErrInvalid}, {with(func(p *replace.Plan) { p.Fits[0] = []int{-1, 0} }), api.ErrInvalid}, {with(func(p *replace.Plan) { p.Fits[0] = []int{0, 3} }), api.ErrInvalid},
		{with(func(p *replace.Plan) { p.Uses[0], p.Uses[1] = 2, 2 }), api.ErrInvalid}, {with(func(p *replace.Plan) { p.Uses[2] = -2 }), api.ErrInvalid}, {with(func(p *replace.Plan) { p.Uses[2] = math.MaxInt }), api.ErrInvalid}, {with(func(p *replace.Plan) { p.Fixed[2] = true }), api.ErrInvalid},
		{with(func(p *replace.Plan) { p.Uses[2] = 2 }), api.ErrDuplicate},
	} {
		broken, e1 := replace.Break(c.p, 9)
		repair, e2 := replace.Repair(c.p, 9)
		behind, e3 := replace.Apply(c.p, []change{{9, 9, 9}})
		stones, pieces, e4 := replace.Refusal(c.p, 9)
		all, e5 := replace.All(c.p)
		free, e6 := replace.Free(c.p)
		for k, e := range []api.Errno{replace.Check(c.p), e1, e2, e3, e4, e5, e6} {
			if e != c.e {
				t.Errorf("refusal %d, function %d: %d, want %d", i, k, e, c.e)
			}
		}
		if !reflect.DeepEqual(broken, replace.Plan{}) || !reflect.DeepEqual(behind, replace.Plan{}) || len(repair)+len(stones)+len(pieces)+len(all)+len(free) != 0 || replace.Refutes(c.p, 2, []int{2}, nil) {
			t.Errorf("refusal %d has results", i)
		}
	}
	p := example(0, 2, -1)
	p.Fixed[1] = true
	for _, n := range []int{-1, 3, math.MaxInt, math.MinInt} {
		_, e1 := replace.Break(p, n)
		_, e2 := replace.Repair(p, n)
		_, _, e3 := replace.Refusal(p, n)
		if e1 != api.ErrRange || e2 != api.ErrRange || e3 != api.ErrRange {
			t.Errorf("%d: %d, %d, %d", n, e1, e2, e3)
		}
	}
	_, e1 := replace.Break(p, 2)
	_, e2 := replace.Repair(p, 1)
	_, _, e3 := replace.Refusal(p, 0)
	if e1 != api.ErrState || e2 != api.ErrState || e3 != api.ErrState {
		t.Errorf("%d, %d, %d", e1, e2, e3)
	}
	if e := replace.Check(replace.Plan{}); e != api.OK {
		t.Errorf("Check = %d", e)
	}
}

// P48.2, P1
func TestApply(t *testing.T) {
	p := example(0, 2, -1)
	got, e := replace.Apply(p, []change{{1, 2, 1}, {2, -1, 2}})
	if !reflect.DeepEqual(got, example(0, 1, 2)) || e != api.OK {
		t.Errorf("Apply = %v, %d", got, e)
	}
	got.Fits[0][0], got.Uses[0], got.Fixed[0] = 9, 9, true
	if !reflect.DeepEqual(p, example(0, 2, -1)) {
		t.Error("Apply shares memory with its argument")
	}
	p.Fixed[0] = true
	for i, c := range []struct {
		list []change
		e    api.Errno
	}{
		{nil, api.OK}, {[]change{{1, 2, 2}}, api.OK}, {[]change{{3, 0, 0}}, api.ErrRange}, {[]change{{-1, 0, 0}}, api.ErrRange}, {[]change{{1, 1, 9}}, api.ErrConflict}, {[]change{{1, -1, 1}}, api.ErrConflict}, {[]change{{1, 2, 1}, {1, 1, 2}}, api.ErrConflict}, {[]change{{1, 2, 1}, {1, 2, 2}}, api.ErrConflict},
		{[]change{{0, 0, 9}}, api.ErrState}, {[]change{{1, 2, 0}}, api.ErrInvalid}, {[]change{{1, 2, -1}}, api.ErrInvalid}, {[]change{{2, -1, 2}, {1, 2, 0}, {9, 9, 9}}, api.ErrInvalid}, {[]change{{2, -1, 2}, {9, 9, 9}}, api.ErrRange}, {[]change{{2, -1, 2}}, api.ErrDuplicate}, {[]change{{2, -1, 2}, {1, 2, 1}}, api.OK},
	} {
		got, e := replace.Apply(p, c.list)
		if e != c.e || e != api.OK && !reflect.DeepEqual(got, replace.Plan{}) {
			t.Errorf("Apply %d = %v, %d", i, got, e)
		}
	}
	q := example(0, 2, -1)
	broken, _ := replace.Break(q, 1)
	broken.Fits[0][0] = 7
	if !reflect.DeepEqual(q, example(0, 2, -1)) {
		t.Error("Break changes its argument")
	}
}

// P48.3
func TestRefutes(t *testing.T) {
	p := plan(4, []int{0, 1, -1, 2, -1}, []int{0, 1}, []int{0, 1}, []int{0, 1}, []int{1, 2}, []int{0})
	for i, c := range []struct {
		stones, pieces []int
		want           bool
	}{
		{[]int{0, 1, 2}, []int{0, 1}, true}, {[]int{0, 1, 2}, []int{0, 1, 2}, false}, {[]int{0, 1, 2, 3}, []int{0, 1, 2}, true}, {[]int{0, 2}, []int{0, 1}, false}, {[]int{0, 1}, []int{0, 1}, false}, {[]int{0, 1, 2}, []int{0}, false}, {[]int{1, 0, 2}, []int{0, 1}, false}, {[]int{0, 1, 2}, []int{1, 0}, false}, {[]int{0, 1, 2, 2}, []int{0, 1}, false}, {[]int{0, 1, 2, 5}, []int{0, 1}, false}, {[]int{-1, 0, 1, 2}, []int{0, 1}, false}, {[]int{0, 1, 2}, []int{0, 1, 4}, false}, {nil, nil, false},
		{[]int{0, 2, 4}, []int{0, 1}, false}, // the stone 4 uses no piece, and is no claimant
	} {
		if got := replace.Refutes(p, 2, c.stones, c.pieces); got != c.want {
			t.Errorf("Refutes %d = %v", i, got)
		}
	}
	if replace.Refutes(p, 0, []int{0, 1, 2}, []int{0, 1}) {
		t.Error("Refutes of a stone with a piece")
	}
	p.Fixed[1] = true
	if replace.Refutes(p, 2, []int{0, 1, 2}, []int{0, 1}) || !replace.Refutes(p, 2, []int{0, 2}, []int{0, 1}) {
		t.Error("Refutes with a fixed stone")
	}
	none := plan(0, []int{-1}, nil)
	if !replace.Refutes(none, 0, []int{0}, nil) {
		t.Error("Refutes without pieces")
	}
}

func random(r *rand.Rand) replace.Plan {
	p := replace.Plan{Pieces: r.Intn(6)}
	for range r.Intn(6) {
		var fits []int
		for piece := range p.Pieces {
			if r.Intn(5) < 2 {
				fits = append(fits, piece)
			}
		}
		use := -1
		if len(fits) > 0 && r.Intn(3) > 0 {
			use = fits[r.Intn(len(fits))]
		}
		if use >= 0 && slices.Contains(p.Uses, use) {
			use = -1
		}
		p.Fits, p.Uses, p.Fixed = append(p.Fits, fits), append(p.Uses, use), append(p.Fixed, use >= 0 && r.Intn(4) == 0)
	}
	return p
}

// repairs visits all repairs of a stone.
func repairs(p replace.Plan, stone int, visit func(list []change)) {
	var try func(list []change, stone int)
	try = func(list []change, stone int) {
		if p.Fixed[stone] || slices.ContainsFunc(list, func(c change) bool { return c.Stone == stone }) {
			return
		}
		for _, piece := range p.Fits[stone] {
			if piece == p.Uses[stone] {
				continue
			}
			next := append(slices.Clone(list), change{stone, p.Uses[stone], piece})
			if user := slices.Index(p.Uses, piece); user < 0 {
				visit(next)
			} else {
				try(next, user)
			}
		}
	}
	try(nil, stone)
}

func compare(a, b []change) int {
	if len(a) != len(b) {
		return len(a) - len(b)
	}
	return slices.CompareFunc(a, b, func(x, y change) int { return x.To - y.To })
}

// P48.2 to P48.6: by trial of all repairs.
func TestByTrial(t *testing.T) {
	r := rand.New(rand.NewSource(1))
	for range 5000 {
		p := random(r)
		if e := replace.Check(p); e != api.OK {
			t.Fatal(p, e)
		}
		for stone := range p.Fits {
			if p.Uses[stone] >= 0 {
				continue
			}
			var want []change
			repairs(p, stone, func(list []change) {
				if want == nil || compare(list, want) < 0 {
					want = list
				}
			})
			got, e := replace.Repair(p, stone)
			if !slices.Equal(got, want) || (e == api.OK) != (want != nil) || e != api.OK && e != api.ErrNone || len(got) > len(p.Fits) {
				t.Fatalf("Repair(%v, %d) = %v, %d, want %v", p, stone, got, e, want)
			}
			stones, pieces, f := replace.Refusal(p, stone)
			if (f == api.OK) == (e == api.OK) || f == api.OK && !replace.Refutes(p, stone, stones, pieces) {
				t.Fatalf("Refusal(%v, %d) = %v, %v, %d", p, stone, stones, pieces, f)
			}
			if f == api.OK {
				checkRefusal(t, p, stone, stones, pieces)
			}
		}
		checkAll(t, p)
	}
}

func checkRefusal(t *testing.T, p replace.Plan, stone int, stones, pieces []int) {
	want := map[int]bool{stone: true}
	fitting := map[int]bool{}
	for isNew := true; isNew; {
		isNew = false
		for i := range want {
			for _, piece := range p.Fits[i] {
				fitting[piece] = true
				if user := slices.Index(p.Uses, piece); !p.Fixed[user] && !want[user] {
					want[user], isNew = true, true
					break
				}
			}
			if isNew {
				break
			}
		}
	}
	isAll := func(list []int, set map[int]bool) bool {
		return len(list) == len(set) && slices.IsSorted(list) && !slices.ContainsFunc(list, func(n int) bool { return !set[n] })
	}
	if !isAll(stones, want) || !isAll(pieces, fitting) {
		t.Fatalf("Refusal(%v, %d) = %v, %v, want %v, %v", p, stone, stones, pieces, want, fitting)
	}
}

// best tries all ways in which all stones that use a piece keep using one.
func best(p replace.Plan) (most, fewest int) {
	uses := make([]int, len(p.Fits))
	most = -1
	var try func(i, count, changes int)
	try = func(i, count, changes int) {
		if i == len(uses) {
			if count > most || count == most && changes < fewest {
				most, fewest = count, changes
			}
			return
		}
		if p.Uses[i] < 0 {
			uses[i] = -1
			try(i+1, count, changes)
		}
		for _, piece := range p.Fits[i] {
			if slices.Contains(uses[:i], piece) || p.Fixed[i] && piece != p.Uses[i] {
				continue
			}
			uses[i] = piece
			next := changes
			if piece != p.Uses[i] {
				next++
			}
			try(i+1, count+1, next)
		}
	}
	try(0, 0, 0)
	return most, fewest
}

func checkAll(t *testing.T, p replace.Plan) {
	list, e := replace.All(p)
	behind, f := replace.Apply(p, list)
	most, fewest := best(p)
	count := 0
	for i, piece := range behind.Uses {
		if piece >= 0 {
			count++
		} else if p.Uses[i] >= 0 {
			t.Fatalf("All(%v) = %v takes the piece of %d", p, list, i)
		}
	}
	if e != api.OK || f != api.OK || count != most || len(list) != fewest || !slices.IsSortedFunc(list, func(a, b change) int { return a.Stone - b.Stone }) {
		t.Fatalf("All(%v) = %v, %d, %d; want %d stones and %d changes", p, list, e, f, most, fewest)
	}
}

// P48.5, P48.6
func TestGreat(t *testing.T) {
	p := replace.Plan{Pieces: 64}
	for i := range 64 {
		fits := []int{i}
		if i > 0 {
			fits = []int{i - 1, i}
		}
		p.Fits, p.Uses, p.Fixed = append(p.Fits, fits), append(p.Uses, i-1), append(p.Fixed, false)
	}
	repair, e := replace.Repair(p, 0)
	if len(repair) != 64 || e != api.OK {
		t.Errorf("Repair has %d, %d", len(repair), e)
	}
	if all, e := replace.All(p); len(all) != 64 || e != api.OK {
		t.Errorf("All has %d, %d", len(all), e)
	}
	for i := range p.Fits {
		p.Fits[i], p.Uses[i] = nil, -1
		for piece := range 64 {
			p.Fits[i] = append(p.Fits[i], piece)
		}
	}
	if all, e := replace.All(p); len(all) != 64 || e != api.OK {
		t.Errorf("All has %d, %d", len(all), e)
	}
}
