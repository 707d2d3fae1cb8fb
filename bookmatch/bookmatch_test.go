package bookmatch_test

import (
	"math"
	"math/rand"
	"slices"
	"testing"

	"gangsaw/api"
	"gangsaw/bookmatch"
	"gangsaw/colour"
)

func s(front, back []int) api.Slab { return api.Slab{Front: front, Back: back} }

// example has the slabs of the chapter's examples.
func example() []api.Slab {
	return []api.Slab{s([]int{1, 5, 9}, []int{9, 5, 1}), s([]int{9, 5, 1}, []int{1, 5, 9}), s([]int{1, 5, 8}, []int{9, 5, 2})}
}

func row(first int, turned ...bool) []bookmatch.Set {
	var list []bookmatch.Set
	for i, t := range turned {
		list = append(list, bookmatch.Set{Slab: first + i, Turned: t})
	}
	return list
}

// P36.1 to P36.5: the examples.
func TestExamples(t *testing.T) {
	slabs := example()
	if got, n, e := bookmatch.Sequence(slabs); !slices.Equal(got, row(0, false, false, false)) || n != 31 || e != api.OK {
		t.Errorf("Sequence = %v, %d, %d", got, n, e)
	}
	if got, n, e := bookmatch.Book(slabs); !slices.Equal(got, row(0, false, true, false)) || n != 31 || e != api.OK {
		t.Errorf("Book = %v, %d, %d", got, n, e)
	}
	proof, e := bookmatch.Proof(slabs)
	if !slices.Equal(proof, [][2]int64{{31, 31}, {15, 15}, {0, 0}}) || e != api.OK {
		t.Errorf("Proof = %v, %d", proof, e)
	}
	if !bookmatch.Proves(slabs, 31, proof) || bookmatch.Proves(slabs, 32, proof) {
		t.Error("Proves")
	}
	runs, e := bookmatch.Runs(slabs, 15)
	if len(runs) != 2 || !slices.Equal(runs[0], row(0, false)) || !slices.Equal(runs[1], row(1, false, false)) || e != api.OK {
		t.Errorf("Runs = %v, %d", runs, e)
	}
	if got, n, e := bookmatch.Best(slabs, 2); !slices.Equal(got, row(1, false, false)) || n != 15 || e != api.OK {
		t.Errorf("Best = %v, %d, %d", got, n, e)
	}
	for i, c := range []struct {
		row  []bookmatch.Set
		want int64
		e    api.Errno
	}{
		{nil, 0, api.OK}, {row(2, true), 0, api.OK}, {row(0, false, false), 16, api.OK}, {[]bookmatch.Set{{2, true}, {0, true}}, 1, api.OK}, {[]bookmatch.Set{{2, false}, {0, true}, {1, true}}, 17, api.OK},
		{row(2, true, false), 0, api.ErrInvalid}, {row(-1, true), 0, api.ErrInvalid}, {[]bookmatch.Set{{1, true}, {0, true}, {1, false}}, 0, api.ErrInvalid}, {row(math.MaxInt, true), 0, api.ErrInvalid},
	} {
		if n, e := bookmatch.Cost(slabs, c.row); n != c.want || e != c.e {
			t.Errorf("Cost %d = %d, %d", i, n, e)
		}
	}
}

// P36.2: the first one of the best rows.
func TestFirst(t *testing.T) {
	one, two := []int{1, 2}, []int{2, 1}
	slabs := []api.Slab{s(one, one), s(two, two), s(one, one)}
	// Turned over, 1 2 looks like 2 1.
	if got, n, _ := bookmatch.Sequence(slabs); !slices.Equal(got, row(0, false, true, false)) || n != 0 {
		t.Errorf("Sequence = %v, %d", got, n)
	}
	if got, n, _ := bookmatch.Sequence(slabs[:1]); !slices.Equal(got, row(0, false)) || n != 0 {
		t.Errorf("Sequence = %v, %d", got, n)
	}
}

// P36.3
func TestProves(t *testing.T) {
	slabs := example()
	for i, c := range []struct {
		cost  int64
		proof [][2]int64
		want  bool
	}{
		{31, [][2]int64{{31, 31}, {15, 15}, {0, 0}}, true}, {-9, [][2]int64{{31, 31}, {15, 15}, {0, 0}}, true}, {31, [][2]int64{{31, 32}, {15, 15}, {0, 0}}, false}, {31, [][2]int64{{31, 31}, {15, 16}, {0, 0}}, false},
		{31, [][2]int64{{31, 31}, {15, 15}, {0, 1}}, false}, {31, [][2]int64{{31, 31}, {15, 15}, {1, 0}}, false}, {31, [][2]int64{{30, 31}, {15, 15}, {0, 0}}, false}, {30, [][2]int64{{30, 31}, {15, 15}, {0, 0}}, true}, {30, [][2]int64{{31, 30}, {15, 15}, {0, 0}}, true},
		{31, [][2]int64{{31, 31}, {15, 15}}, false}, {31, [][2]int64{{31, 31}, {15, 15}, {0, 0}, {0, 0}}, false}, {0, nil, false},
		{math.MinInt64, [][2]int64{{math.MinInt64, math.MinInt64}, {math.MinInt64, math.MinInt64}, {math.MinInt64, math.MinInt64}}, true},
		{5, [][2]int64{{5, 5}, {math.MaxInt64, math.MaxInt64}, {0, 0}}, false}, {5, [][2]int64{{math.MaxInt64, 5}, {15, 15}, {0, 0}}, false}, {math.MaxInt64, [][2]int64{{31, 31}, {15, 15}, {0, 0}}, false},
		{5, [][2]int64{{5, 5}, {math.MinInt64, 15}, {0, 0}}, false},
	} {
		if got := bookmatch.Proves(slabs, c.cost, c.proof); got != c.want {
			t.Errorf("Proves %d = %v", i, got)
		}
	}
	if bookmatch.Proves(nil, 0, nil) || bookmatch.Proves([]api.Slab{s([]int{1}, nil)}, 0, make([][2]int64, 1)) {
		t.Error("Proves without valid slabs")
	}
}

// P36.1 to P36.5, P1: each error, and which one comes first.
func TestErrors(t *testing.T) {
	with := func(change func(list []api.Slab)) []api.Slab {
		list := example()
		change(list)
		return list
	}
	for i, c := range []struct {
		list []api.Slab
		e    api.Errno
	}{
		{make([]api.Slab, 65), api.ErrTooMany}, {nil, api.ErrInvalid}, {[]api.Slab{}, api.ErrInvalid},
		{with(func(l []api.Slab) { l[1].Back[2], l[2].Front = -1, nil }), api.ErrRange},
		{with(func(l []api.Slab) { l[1].Back, l[2].Front[0] = nil, 1001 }), api.ErrInvalid},
		{with(func(l []api.Slab) { l[1].Front[0], l[1].Back = 1001, nil }), api.ErrRange},
		{with(func(l []api.Slab) { l[0].Back, l[2].Front[0] = []int{1, 2}, 1001 }), api.ErrRange},
		{with(func(l []api.Slab) { l[0].Back = []int{1, 2} }), api.ErrInvalid},
		{with(func(l []api.Slab) { l[2].Front = []int{1, 2, 3, 4} }), api.ErrInvalid},
	} {
		bad := row(-1, true)
		n1, e1 := bookmatch.Cost(c.list, bad)
		r2, n2, e2 := bookmatch.Sequence(c.list)
		r3, n3, e3 := bookmatch.Book(c.list)
		p, e4 := bookmatch.Proof(c.list)
		r5, n5, e5 := bookmatch.Best(c.list, 1)
		runs, e6 := bookmatch.Runs(c.list, 0)
		for k, e := range []api.Errno{e1, e2, e3, e4, e5, e6} {
			if e != c.e {
				t.Errorf("refusal %d, function %d: %d, want %d", i, k, e, c.e)
			}
		}
		if n1+n2+n3+n5 != 0 || len(r2)+len(r3)+len(r5)+len(p)+len(runs) != 0 {
			t.Errorf("refusal %d has results", i)
		}
	}
	for _, n := range []int{0, -1, 4, math.MaxInt, math.MinInt} {
		if got, m, e := bookmatch.Best(example(), n); got != nil || m != 0 || e != api.ErrInvalid {
			t.Errorf("Best(%d) = %v, %d, %d", n, got, m, e)
		}
	}
	for _, n := range []int64{-1, math.MinInt64} {
		if got, e := bookmatch.Runs(example(), n); got != nil || e != api.ErrInvalid {
			t.Errorf("Runs(%d) = %v, %d", n, got, e)
		}
	}
	var full []api.Slab
	for range bookmatch.MaxRow {
		full = append(full, example()[0])
	}
	if got, n, e := bookmatch.Sequence(full); len(got) != 64 || n != 0 || e != api.OK {
		t.Errorf("Sequence = %v, %d, %d", got, n, e)
	}
	if runs, e := bookmatch.Runs(full, math.MaxInt64); len(runs) != 1 || e != api.OK {
		t.Errorf("Runs = %v, %d", runs, e)
	}
}

func random(r *rand.Rand, count int) []api.Slab {
	n := 1 + r.Intn(3)
	code := func() []int {
		var list []int
		for range n {
			list = append(list, r.Intn(4))
		}
		return list
	}
	var list []api.Slab
	for range count {
		list = append(list, s(code(), code()))
	}
	return list
}

// rows are all rows in order of so many slabs, as they are compared.
func rows(first, n int) [][]bookmatch.Set {
	var list [][]bookmatch.Set
	for bits := range 1 << n {
		var turned []bool
		for i := range n {
			turned = append(turned, bits>>(n-1-i)&1 == 1)
		}
		list = append(list, row(first, turned...))
	}
	return list
}

// best is the first one of the best rows, by trial.
func best(slabs []api.Slab, first, n int) ([]bookmatch.Set, int64) {
	var found []bookmatch.Set
	least := int64(math.MaxInt64)
	for _, r := range rows(first, n) {
		if c, _ := bookmatch.Cost(slabs, r); c < least {
			found, least = r, c
		}
	}
	return found, least
}

// joinable reports whether no mismatch of neighbours of a row is greater than a limit.
func joinable(slabs []api.Slab, r []bookmatch.Set, limit int64) bool {
	for i := 1; i < len(r); i++ {
		n, _ := colour.Between(slabs[r[i-1].Slab], r[i-1].Turned, slabs[r[i].Slab], r[i].Turned)
		if int64(n) > limit {
			return false
		}
	}
	return true
}

// P36.2 to P36.6
func TestProperties(t *testing.T) {
	r := rand.New(rand.NewSource(1))
	for range 600 {
		slabs := random(r, 1+r.Intn(6))
		want, least := best(slabs, 0, len(slabs))
		got, n, e := bookmatch.Sequence(slabs)
		_, book, _ := bookmatch.Book(slabs)
		if !slices.Equal(got, want) || n != least || e != api.OK || n > book {
			t.Fatalf("Sequence(%v) = %v, %d, %d, want %v, %d", slabs, got, n, e, want, least)
		}
		proof, _ := bookmatch.Proof(slabs)
		if !bookmatch.Proves(slabs, least, proof) || bookmatch.Proves(slabs, least+1, proof) {
			t.Fatalf("Proof(%v) = %v", slabs, proof)
		}
		for i := range proof {
			_, tail := best(slabs, i, len(slabs)-i)
			if min(proof[i][0], proof[i][1]) != tail {
				t.Fatalf("Proof(%v) = %v", slabs, proof)
			}
		}
		checkBest(t, slabs)
		checkRuns(t, slabs, int64(r.Intn(6)))
		var reversed []api.Slab
		for _, x := range slabs {
			front, _ := colour.Mirror(x.Front)
			back, _ := colour.Mirror(x.Back)
			reversed = append([]api.Slab{s(front, back)}, reversed...)
		}
		if _, n, _ := bookmatch.Sequence(reversed); n != least {
			t.Fatalf("%v reversed: %d, want %d", slabs, n, least)
		}
	}
}

func checkBest(t *testing.T, slabs []api.Slab) {
	for n := 1; n <= len(slabs); n++ {
		want, least := best(slabs, 0, n)
		for first := 1; first+n <= len(slabs); first++ {
			if r, c := best(slabs, first, n); c < least {
				want, least = r, c
			}
		}
		if got, c, e := bookmatch.Best(slabs, n); !slices.Equal(got, want) || c != least || e != api.OK {
			t.Fatalf("Best(%v, %d) = %v, %d, %d, want %v, %d", slabs, n, got, c, e, want, least)
		}
	}
}

func checkRuns(t *testing.T, slabs []api.Slab, limit int64) {
	runs, e := bookmatch.Runs(slabs, limit)
	if e != api.OK {
		t.Fatal(e)
	}
	first := 0
	for _, run := range runs {
		var want []bookmatch.Set
		for n := len(slabs) - first; want == nil; n-- {
			for _, r := range rows(first, n) {
				if want == nil && joinable(slabs, r, limit) {
					want = r
				}
			}
		}
		if !slices.Equal(run, want) {
			t.Fatalf("Runs(%v, %d) = %v, want %v", slabs, limit, runs, want)
		}
		first += len(run)
	}
	more, _ := bookmatch.Runs(slabs, limit+1)
	if first != len(slabs) || len(more) > len(runs) {
		t.Fatalf("Runs(%v, %d) = %v, with a greater limit %v", slabs, limit, runs, more)
	}
}
