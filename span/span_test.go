package span_test

import (
	"math"
	"math/rand"
	"slices"
	"testing"

	"gangsaw/api"
	"gangsaw/span"
)

const top = span.MaxNumber

func in(lo, hi int) api.Interval { return api.Interval{Lo: lo, Hi: hi} }

// list makes intervals of pairs of ends.
func list(ends ...int) []api.Interval {
	var l []api.Interval
	for i := 0; i < len(ends); i += 2 {
		l = append(l, in(ends[i], ends[i+1]))
	}
	return l
}

// many makes n intervals of one number each, which do not touch.
func many(n, from int) []api.Interval {
	var l []api.Interval
	for i := range n {
		l = append(l, in(from+2*i, from+2*i))
	}
	return l
}

type pairFunction struct {
	name string
	call func(a, b api.Interval) (api.Interval, api.Errno)
}

func pairFunctions() []pairFunction {
	return []pairFunction{{"Add", span.Add}, {"Sub", span.Sub}, {"Intersect", span.Intersect}, {"Hull", span.Hull}}
}

type listFunction struct {
	name string
	call func(a, b []api.Interval) ([]api.Interval, api.Errno)
}

func listFunctions() []listFunction {
	return []listFunction{{"Union", span.Union}, {"Minus", span.Minus}, {"Common", span.Common}}
}

// P1.1
func TestCheck(t *testing.T) {
	for _, c := range []struct {
		a    api.Interval
		want api.Errno
	}{
		{in(0, 0), api.OK},
		{in(-3, 5), api.OK},
		{in(-top, top), api.OK},
		{in(top, top), api.OK},
		{in(-top, -top), api.OK},
		{in(1, 0), api.ErrInvalid},
		{in(top, -top), api.ErrInvalid},
		{in(-top-1, 0), api.ErrRange},
		{in(0, top+1), api.ErrRange},
		{in(top+1, top+1), api.ErrRange},
		{in(-top-1, -top-1), api.ErrRange},
		{in(top+1, 0), api.ErrRange},
		{in(0, -top-1), api.ErrRange},
		{in(math.MinInt, math.MaxInt), api.ErrRange},
		{in(math.MaxInt, math.MinInt), api.ErrRange},
	} {
		if e := span.Check(c.a); e != c.want {
			t.Errorf("Check(%v) = %d, want %d", c.a, e, c.want)
		}
		want := 0
		if c.want == api.OK {
			want = c.a.Hi - c.a.Lo + 1
		}
		if n := span.Length(c.a); n != want {
			t.Errorf("Length(%v) = %d, want %d", c.a, n, want)
		}
	}
	if n := span.Length(in(-top, top)); n != 2*top+1 {
		t.Errorf("Length of all: %d", n)
	}
}

// P1.1
func TestContains(t *testing.T) {
	for _, c := range []struct {
		a    api.Interval
		n    int
		want bool
	}{
		{in(2, 5), 1, false},
		{in(2, 5), 2, true},
		{in(2, 5), 4, true},
		{in(2, 5), 5, true},
		{in(2, 5), 6, false},
		{in(3, 3), 3, true},
		{in(5, 2), 3, false},
		{in(5, 2), 5, false},
		{in(5, 2), 2, false},
		{in(math.MinInt, math.MaxInt), math.MaxInt, true},
		{in(math.MinInt, math.MaxInt), math.MinInt, true},
		{in(top+1, top+3), top + 2, true},
	} {
		if got := span.Contains(c.a, c.n); got != c.want {
			t.Errorf("Contains(%v, %d) = %v", c.a, c.n, got)
		}
	}
}

// P1.1
func TestWithin(t *testing.T) {
	for _, c := range []struct {
		a, b api.Interval
		want bool
	}{
		{in(2, 5), in(2, 5), true},
		{in(3, 4), in(2, 5), true},
		{in(2, 6), in(2, 5), false},
		{in(1, 5), in(2, 5), false},
		{in(1, 6), in(2, 5), false},
		{in(7, 8), in(2, 5), false},
		{in(0, 1), in(2, 5), false},
		{in(9, 1), in(2, 5), true},
		{in(1, 0), in(2, 5), true},
		{in(7, 6), in(2, 5), true},
		{in(9, 1), in(5, 2), true},
		{in(3, 3), in(5, 2), false},
		{in(5, 5), in(5, 2), false},
		{in(2, 2), in(5, 2), false},
		{in(math.MaxInt, math.MinInt), in(0, 0), true},
		{in(math.MinInt, math.MaxInt), in(math.MinInt, math.MaxInt), true},
		{in(top+1, top+2), in(top, top+2), true},
	} {
		if got := span.Within(c.a, c.b); got != c.want {
			t.Errorf("Within(%v, %v) = %v", c.a, c.b, got)
		}
	}
}

// P1.2, P1.3
func TestPairs(t *testing.T) {
	for _, c := range []struct {
		name string
		a, b api.Interval
		want api.Interval
		e    api.Errno
	}{
		{"Add", in(1, 3), in(10, 20), in(11, 23), api.OK},
		{"Add", in(-5, 2), in(-1, 4), in(-6, 6), api.OK},
		{"Add", in(-top, top), in(0, 0), in(-top, top), api.OK},
		{"Add", in(1, 2), in(0, top-2), in(1, top), api.OK},
		{"Add", in(1, 3), in(0, top-2), in(0, 0), api.ErrRange},
		{"Add", in(-3, 0), in(2-top, 0), in(0, 0), api.ErrRange},
		{"Add", in(top, top), in(top, top), in(0, 0), api.ErrRange},
		{"Sub", in(1, 3), in(10, 20), in(-19, -7), api.OK},
		{"Sub", in(0, 0), in(-top, top), in(-top, top), api.OK},
		{"Sub", in(0, 1), in(-top, 0), in(0, 0), api.ErrRange},
		{"Sub", in(-1, 0), in(0, top), in(0, 0), api.ErrRange},
		{"Sub", in(-top, top), in(-top, top), in(0, 0), api.ErrRange},
		{"Intersect", in(1, 5), in(3, 9), in(3, 5), api.OK},
		{"Intersect", in(3, 9), in(1, 5), in(3, 5), api.OK},
		{"Intersect", in(1, 9), in(3, 5), in(3, 5), api.OK},
		{"Intersect", in(1, 3), in(3, 5), in(3, 3), api.OK},
		{"Intersect", in(1, 2), in(3, 4), in(0, 0), api.ErrNone},
		{"Intersect", in(3, 4), in(1, 2), in(0, 0), api.ErrNone},
		{"Intersect", in(-top, top), in(top, top), in(top, top), api.OK},
		{"Hull", in(1, 2), in(3, 4), in(1, 4), api.OK},
		{"Hull", in(8, 9), in(-3, -3), in(-3, 9), api.OK},
		{"Hull", in(1, 9), in(3, 5), in(1, 9), api.OK},
		{"Hull", in(3, 5), in(1, 9), in(1, 9), api.OK},
		{"Hull", in(-top, -top), in(top, top), in(-top, top), api.OK},
	} {
		for _, f := range pairFunctions() {
			if f.name != c.name {
				continue
			}
			if got, e := f.call(c.a, c.b); got != c.want || e != c.e {
				t.Errorf("%s(%v, %v) = %v, %d, want %v, %d", c.name, c.a, c.b, got, e, c.want, c.e)
			}
		}
	}
}

// P1: the first error of the table, for all intervals; zero values beside it.
func TestErrorsOfPairs(t *testing.T) {
	good, wide, turned, both := in(1, 2), in(0, top+1), in(2, 1), in(top+1, 0)
	for _, f := range pairFunctions() {
		for _, c := range []struct {
			a, b api.Interval
			want api.Errno
		}{
			{wide, good, api.ErrRange},
			{good, wide, api.ErrRange},
			{good, in(-top-1, 0), api.ErrRange},
			{turned, good, api.ErrInvalid},
			{good, turned, api.ErrInvalid},
			{turned, turned, api.ErrInvalid},
			{turned, wide, api.ErrRange},
			{wide, turned, api.ErrRange},
			{both, good, api.ErrRange},
			{good, both, api.ErrRange},
			{in(top, -top), in(-top, -top), api.ErrInvalid},
			{in(top, -top), in(top, top), api.ErrInvalid},
			{in(7, 6), in(1, 2), api.ErrInvalid},
			{in(math.MinInt, math.MaxInt), in(math.MinInt, math.MaxInt), api.ErrRange},
			{in(math.MaxInt, math.MinInt), in(math.MaxInt, math.MinInt), api.ErrRange},
		} {
			if got, e := f.call(c.a, c.b); e != c.want || got != in(0, 0) {
				t.Errorf("%s(%v, %v) = %v, %d, want %d", f.name, c.a, c.b, got, e, c.want)
			}
		}
	}
}

// P1.2
func TestSum(t *testing.T) {
	for _, c := range []struct {
		l    []api.Interval
		want api.Interval
		e    api.Errno
	}{
		{nil, in(0, 0), api.OK},
		{list(), in(0, 0), api.OK},
		{[]api.Interval{}, in(0, 0), api.OK},
		{list(1, 2, 1, 2, 1, 2), in(3, 6), api.OK},
		{list(-4, 7), in(-4, 7), api.OK},
		{list(top, top, top, top, -top, -top, -top, -top), in(0, 0), api.OK},
		{list(top, top, 5, 6, -top, -top), in(5, 6), api.OK},
		{list(0, top, 0, 1), in(0, 0), api.ErrRange},
		{list(-top, 0, -1, 0), in(0, 0), api.ErrRange},
		{list(0, top+1), in(0, 0), api.ErrRange},
		{list(3, 2, 0, top+1), in(0, 0), api.ErrRange},
		{list(0, top, 0, top, 3, 2), in(0, 0), api.ErrInvalid},
		{slices.Repeat(list(top, top), span.MaxList), in(0, 0), api.ErrRange},
		{slices.Repeat(list(-top, -top), span.MaxList), in(0, 0), api.ErrRange},
		{slices.Repeat(list(-1, 2), span.MaxList), in(-span.MaxList, 2*span.MaxList), api.OK},
		{slices.Repeat(list(-1, 2), span.MaxList+1), in(0, 0), api.ErrTooMany},
	} {
		if got, e := span.Sum(c.l); got != c.want || e != c.e {
			t.Errorf("Sum of %d: %v, %d, want %v, %d", len(c.l), got, e, c.want, c.e)
		}
	}
}

// P1.4
func TestNormalize(t *testing.T) {
	for _, c := range []struct{ l, want []api.Interval }{
		{nil, nil},
		{[]api.Interval{}, nil},
		{list(5, 7, 1, 2, 3, 3), list(1, 3, 5, 7)},
		{list(1, 2, 4, 5), list(1, 2, 4, 5)},
		{list(4, 5, 1, 2), list(1, 2, 4, 5)},
		{list(1, 2, 3, 5), list(1, 5)},
		{list(1, 9, 2, 3, 10, 10), list(1, 10)},
		{list(1, 9, 2, 3, 5, 6), list(1, 9)},
		{list(2, 3, 2, 8, 2, 2), list(2, 8)},
		{list(4, 4, 4, 4), list(4, 4)},
		{list(-top, -top, top, top), list(-top, -top, top, top)},
		{list(-top, 0, 1, top), list(-top, top)},
		{list(-1, -1, 0, 0, 1, 1), list(-1, 1)},
	} {
		if got, e := span.Normalize(c.l); e != api.OK || !slices.Equal(got, c.want) {
			t.Errorf("Normalize(%v) = %v, %d, want %v", c.l, got, e, c.want)
		}
	}
}

// P1.4
func TestSets(t *testing.T) {
	for _, c := range []struct {
		a, b, union, minus, common []api.Interval
	}{
		{nil, nil, nil, nil, nil},
		{list(1, 2), nil, list(1, 2), list(1, 2), nil},
		{nil, list(1, 2), list(1, 2), nil, nil},
		{list(1, 9), list(3, 3, 6, 7), list(1, 9), list(1, 2, 4, 5, 8, 9), list(3, 3, 6, 7)},
		{list(3, 3, 6, 7), list(1, 9), list(1, 9), nil, list(3, 3, 6, 7)},
		{list(1, 4, 6, 9), list(3, 7), list(1, 9), list(1, 2, 8, 9), list(3, 4, 6, 7)},
		{list(1, 2, 4, 5, 7, 8), list(2, 7), list(1, 8), list(1, 1, 8, 8), list(2, 2, 4, 5, 7, 7)},
		{list(1, 5), list(6, 9), list(1, 9), list(1, 5), nil},
		{list(6, 9), list(1, 5), list(1, 9), list(6, 9), nil},
		{list(1, 5), list(1, 5), list(1, 5), nil, list(1, 5)},
		{list(4, 5, 1, 3), list(2, 2, 2, 2), list(1, 5), list(1, 1, 3, 5), list(2, 2)},
		{list(-top, top), list(0, 0), list(-top, top), list(-top, -1, 1, top), list(0, 0)},
		{list(-top, top), list(-top, -top, top, top), list(-top, top), list(1-top, top-1), list(-top, -top, top, top)},
	} {
		for i, f := range listFunctions() {
			want := [][]api.Interval{c.union, c.minus, c.common}[i]
			if got, e := f.call(c.a, c.b); e != api.OK || !slices.Equal(got, want) {
				t.Errorf("%s(%v, %v) = %v, %d, want %v", f.name, c.a, c.b, got, e, want)
			}
		}
	}
}

// P1.4
func TestCount(t *testing.T) {
	for _, c := range []struct {
		l    []api.Interval
		want int
	}{
		{nil, 0},
		{list(1, 5, 4, 9), 9},
		{list(4, 9, 1, 5), 9},
		{list(1, 1, 3, 3), 2},
		{list(7, 7, 7, 7), 1},
		{list(-top, top, 0, 3), 2*top + 1},
		{many(span.MaxList, -50), span.MaxList},
	} {
		if got, e := span.Count(c.l); e != api.OK || got != c.want {
			t.Errorf("Count of %d intervals: %d, %d, want %d", len(c.l), got, e, c.want)
		}
	}
}

// P1: the errors of lists, in the order of the table, a before b.
func TestErrorsOfLists(t *testing.T) {
	good, wide, turned := list(1, 2), list(1, 2, 0, top+1), list(1, 2, 2, 1)
	long := many(span.MaxList+1, 0)
	badLong := append(many(span.MaxList, 0), in(top+1, 0))
	for _, c := range []struct {
		a, b []api.Interval
		want api.Errno
	}{
		{long, good, api.ErrTooMany},
		{good, long, api.ErrTooMany},
		{badLong, good, api.ErrTooMany},
		{wide, long, api.ErrTooMany},
		{turned, badLong, api.ErrTooMany},
		{wide, good, api.ErrRange},
		{good, wide, api.ErrRange},
		{good, list(-top-1, 0), api.ErrRange},
		{turned, wide, api.ErrRange},
		{wide, turned, api.ErrRange},
		{list(2, 1, top+1, top+1), nil, api.ErrRange},
		{list(math.MaxInt, math.MinInt), nil, api.ErrRange},
		{turned, good, api.ErrInvalid},
		{good, turned, api.ErrInvalid},
		{nil, turned, api.ErrInvalid},
	} {
		for _, f := range listFunctions() {
			if got, e := f.call(c.a, c.b); e != c.want || len(got) != 0 {
				t.Errorf("%s: %v, %d, want %d", f.name, got, e, c.want)
			}
		}
	}
	for _, c := range []struct {
		l    []api.Interval
		want api.Errno
	}{
		{long, api.ErrTooMany}, {badLong, api.ErrTooMany}, {wide, api.ErrRange}, {list(2, 1, top+1, top+1), api.ErrRange}, {turned, api.ErrInvalid},
	} {
		if got, e := span.Normalize(c.l); e != c.want || len(got) != 0 {
			t.Errorf("Normalize: %v, %d, want %d", got, e, c.want)
		}
		if got, e := span.Count(c.l); e != c.want || got != 0 {
			t.Errorf("Count: %d, %d, want %d", got, e, c.want)
		}
		if got, e := span.Sum(c.l); e != c.want || got != in(0, 0) {
			t.Errorf("Sum: %v, %d, want %d", got, e, c.want)
		}
	}
}

// P1.4: MaxList holds for each list, not for both together or for the result.
func TestLongLists(t *testing.T) {
	a, b := many(span.MaxList, 0), many(span.MaxList, 2*span.MaxList)
	if got, e := span.Normalize(a); e != api.OK || !slices.Equal(got, a) {
		t.Errorf("Normalize: %d intervals, %d", len(got), e)
	}
	if got, e := span.Union(a, b); e != api.OK || !slices.Equal(got, slices.Concat(a, b)) {
		t.Errorf("Union: %d intervals, %d", len(got), e)
	}
	if got, e := span.Minus(list(0, 2*span.MaxList), a); e != api.OK || len(got) != span.MaxList {
		t.Errorf("Minus: %d intervals, %d", len(got), e)
	}
	if got, e := span.Common(a, list(-top, top)); e != api.OK || !slices.Equal(got, a) {
		t.Errorf("Common: %d intervals, %d", len(got), e)
	}
}

const low, high = -20, 20

// members is the set of the numbers of a list between low and high.
func members(l []api.Interval) map[int]bool {
	set := map[int]bool{}
	for _, x := range l {
		for n := x.Lo; n <= x.Hi; n++ {
			set[n] = true
		}
	}
	return set
}

// runs is the normal form of the numbers that a condition accepts.
func runs(accept func(n int) bool) []api.Interval {
	var l []api.Interval
	for n := low; n <= high; n++ {
		if !accept(n) {
			continue
		}
		if len(l) > 0 && l[len(l)-1].Hi == n-1 {
			l[len(l)-1].Hi = n
		} else {
			l = append(l, in(n, n))
		}
	}
	return l
}

func someIntervals(r *rand.Rand) []api.Interval {
	var l []api.Interval
	for range r.Intn(8) {
		lo := low + r.Intn(high-low+1)
		l = append(l, in(lo, min(high, lo+r.Intn(6))))
	}
	return l
}

// P1.4, P1.5: sets of numbers, compared with sets that are kept number by number.
func TestSetsAgainstMembers(t *testing.T) {
	r := rand.New(rand.NewSource(1))
	for range 3000 {
		a, b := someIntervals(r), someIntervals(r)
		oldA, oldB := slices.Clone(a), slices.Clone(b)
		inA, inB := members(a), members(b)
		accepts := []func(n int) bool{
			func(n int) bool { return inA[n] || inB[n] },
			func(n int) bool { return inA[n] && !inB[n] },
			func(n int) bool { return inA[n] && inB[n] },
		}
		var results [][]api.Interval
		for i, f := range listFunctions() {
			got, e := f.call(a, b)
			if want := runs(accepts[i]); e != api.OK || !slices.Equal(got, want) {
				t.Fatalf("%s(%v, %v) = %v, %d, want %v", f.name, a, b, got, e, want)
			}
			results = append(results, got)
		}
		if !slices.Equal(a, oldA) || !slices.Equal(b, oldB) {
			t.Fatalf("an argument is changed: %v, %v", a, b)
		}
		checkCounts(t, a, b, results)
		checkOrder(t, r, a)
	}
}

func count(t *testing.T, l []api.Interval) int {
	n, e := span.Count(l)
	if e != api.OK {
		t.Fatalf("Count(%v): %d", l, e)
	}
	if n != len(members(l)) {
		t.Fatalf("Count(%v) = %d", l, n)
	}
	return n
}

func checkCounts(t *testing.T, a, b []api.Interval, results [][]api.Interval) {
	union, minus, both := results[0], results[1], results[2]
	if count(t, union) != count(t, a)+count(t, b)-count(t, both) {
		t.Fatalf("counts of %v and %v", a, b)
	}
	again, e := span.Union(minus, both)
	whole, f := span.Normalize(a)
	if e != api.OK || f != api.OK || !slices.Equal(again, whole) {
		t.Fatalf("Minus and Common of %v and %v do not make up %v", a, b, whole)
	}
}

func checkOrder(t *testing.T, r *rand.Rand, a []api.Interval) {
	mixed := slices.Clone(a)
	r.Shuffle(len(mixed), func(i, k int) { mixed[i], mixed[k] = mixed[k], mixed[i] })
	x, _ := span.Normalize(a)
	y, e := span.Normalize(mixed)
	if e != api.OK || !slices.Equal(x, y) {
		t.Fatalf("Normalize(%v) = %v, in another order %v", a, x, y)
	}
	x, e = span.Normalize(x)
	if e != api.OK || !slices.Equal(x, y) {
		t.Fatalf("the normal form of a normal form: %v, %v", x, y)
	}
}

// P1.2, P1.3, P1.5: pairs of intervals, compared number by number.
func TestPairsAgainstMembers(t *testing.T) {
	r := rand.New(rand.NewSource(2))
	for range 1000 {
		a, b := in(r.Intn(9)-4, 0), in(r.Intn(9)-4, 0)
		a.Hi, b.Hi = a.Lo+r.Intn(6), b.Lo+r.Intn(6)
		var sums, differences, all, both []int
		for x := a.Lo; x <= a.Hi; x++ {
			all = append(all, x)
			if span.Contains(b, x) {
				both = append(both, x)
			}
			for y := b.Lo; y <= b.Hi; y++ {
				sums, differences = append(sums, x+y), append(differences, x-y)
			}
		}
		for y := b.Lo; y <= b.Hi; y++ {
			all = append(all, y)
		}
		for i, numbers := range [][]int{sums, differences, both, all} {
			f := pairFunctions()[i]
			got, e := f.call(a, b)
			if len(numbers) == 0 {
				if e != api.ErrNone {
					t.Fatalf("%s(%v, %v): %d", f.name, a, b, e)
				}
				continue
			}
			if want := in(slices.Min(numbers), slices.Max(numbers)); got != want || e != api.OK {
				t.Fatalf("%s(%v, %v) = %v, %d, want %v", f.name, a, b, got, e, want)
			}
		}
		sum, e := span.Sum([]api.Interval{a, b, a})
		if want := in(2*a.Lo+b.Lo, 2*a.Hi+b.Hi); sum != want || e != api.OK {
			t.Fatalf("Sum of %v, %v, %v: %v, %d", a, b, a, sum, e)
		}
		if want := len(both) == a.Hi-a.Lo+1; span.Within(a, b) != want {
			t.Fatalf("Within(%v, %v) is not %v", a, b, want)
		}
	}
}

// P1: results share no memory with arguments, whatever is appended or changed.
func TestMemory(t *testing.T) {
	base := list(1, 2, 5, 6, 9, 9)
	a := base[:2]
	results := [][]api.Interval{}
	x, _ := span.Normalize(a)
	results = append(results, x)
	for _, f := range listFunctions() {
		for _, b := range [][]api.Interval{nil, list(20, 30), list(1, 2, 5, 6)} {
			x, _ = f.call(a, b)
			results = append(results, x)
			x, _ = f.call(b, a)
			results = append(results, x)
		}
	}
	for _, x := range results {
		for i := range x {
			x[i] = in(77, 78)
		}
		_ = append(x, in(99, 99))
	}
	if !slices.Equal(base, list(1, 2, 5, 6, 9, 9)) {
		t.Errorf("the argument is changed: %v", base)
	}
}

// P1: no panic for any ends, and always a zero value beside an error.
func TestExtremes(t *testing.T) {
	ends := []int{math.MinInt, -top - 1, -top, -1, 0, 1, top, top + 1, math.MaxInt}
	var all []api.Interval
	for _, lo := range ends {
		for _, hi := range ends {
			all = append(all, in(lo, hi))
		}
	}
	for _, a := range all {
		for _, b := range all {
			valid := span.Check(a) == api.OK && span.Check(b) == api.OK
			for _, f := range pairFunctions() {
				got, e := f.call(a, b)
				if e != api.OK && got != in(0, 0) || e == api.OK && (!valid || span.Check(got) != api.OK) {
					t.Fatalf("%s(%v, %v) = %v, %d", f.name, a, b, got, e)
				}
			}
			for _, f := range listFunctions() {
				got, e := f.call([]api.Interval{a, b}, []api.Interval{b})
				if (e == api.OK) != valid || e != api.OK && len(got) != 0 {
					t.Fatalf("%s(%v, %v) = %v, %d", f.name, a, b, got, e)
				}
			}
			span.Within(a, b)
			span.Contains(a, b.Lo)
		}
	}
}
