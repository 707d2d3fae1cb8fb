package sample_test

import (
	"math"
	"math/big"
	"math/rand"
	"slices"
	"strconv"
	"strings"
	"testing"

	"gangsaw/api"
	"gangsaw/fraction"
	"gangsaw/sample"
)

func f(num, den int64) api.Frac { return api.Frac{Num: num, Den: den} }

// strong are tests with strengths; the absorptions are their squares.
func strong(list ...int) []api.Test {
	var tests []api.Test
	for i, n := range list {
		tests = append(tests, api.Test{Sample: "s" + strconv.Itoa(i), Strength: n, Absorption: n * n})
	}
	return tests
}

// P33.1, P33.4: the examples.
func TestExamples(t *testing.T) {
	tests := strong(30, 10, 20, 20)
	for k, want := range map[int]int{1: 10, 2: 20, 3: 20, 4: 30} {
		if n, e := sample.Strength(tests, k); n != want || e != api.OK {
			t.Errorf("Strength(%d) = %d, %d", k, n, e)
		}
	}
	for k, want := range map[int]int{1: 900, 2: 400, 3: 400, 4: 100} {
		if n, e := sample.Absorption(tests, k); n != want || e != api.OK {
			t.Errorf("Absorption(%d) = %d, %d", k, n, e)
		}
	}
	for limit, want := range map[int]int{20: 1, 10: 0, 11: 1, 21: 3, 30: 3, 31: 4, math.MinInt: 0, math.MaxInt: 4} {
		if n, e := sample.Rank(tests, limit); n != want || e != api.OK {
			t.Errorf("Rank(%d) = %d, %d", limit, n, e)
		}
	}
	for i, c := range []struct {
		tests  []api.Test
		lo, hi int
	}{{tests, 20, 20}, {strong(1, 4, 3, 2), 2, 3}, {strong(1, 5, 3), 3, 3}, {strong(7), 7, 7}, {strong(9, 7), 7, 9}} {
		if lo, hi, e := sample.Median(c.tests); lo != c.lo || hi != c.hi || e != api.OK {
			t.Errorf("Median %d = %d, %d, %d", i, lo, hi, e)
		}
	}
	if n, e := sample.Rank(nil, 5); n != 0 || e != api.OK {
		t.Errorf("Rank = %d, %d", n, e)
	}
}

// P33.4: an outlier lies more than one and a half interquartile ranges below the first quartile.
func TestOutliers(t *testing.T) {
	for i, c := range []struct {
		tests []api.Test
		want  []string
	}{
		{strong(30, 10, 20, 20), nil},
		{strong(100, 100, 100, 100), nil},
		{strong(99, 100, 100, 100), nil},                 // the first quartile is 99
		{strong(99, 100, 100, 100, 100), []string{"s0"}}, // both quartiles are 100
		{strong(100, 100, 99, 100, 98), nil},             // 99 and 100: 98 is not below 97.5
		{strong(100, 100, 99, 100, 97), []string{"s4"}},  // 97 is
		{strong(96, 102, 99, 99, 90, 101), nil},          // k = 2 and 5: 96 and 101, 90 is not below 88.5
		{strong(96, 102, 99, 99, 88, 101), []string{"s4"}},
		{strong(10, 50, 51, 52, 53, 54, 9), nil},                         // k = 2 and 6: 10 and 53
		{strong(7, 60, 60, 60, 60, 60, 6, 60, 60), []string{"s0", "s6"}}, // k = 3 and 7
	} {
		if got, e := sample.Outliers(c.tests); !slices.Equal(got, c.want) || e != api.OK {
			t.Errorf("Outliers %d = %v, %d", i, got, e)
		}
	}
	tests := strong(7, 60, 60, 60, 60, 60, 6, 60, 60)
	tests[0].Sample = "z"
	if got, _ := sample.Outliers(tests); !slices.Equal(got, []string{"s6", "z"}) {
		t.Errorf("Outliers = %v", got)
	}
}

// P33.2
func TestConfidence(t *testing.T) {
	for _, c := range []struct {
		n, k int
		p    api.Frac
		want api.Frac
	}{
		{3, 2, f(1, 2), f(1, 2)}, {2, 1, f(1, 10), f(19, 100)}, {1, 0, f(1, 3), f(1, 1)}, {1, 1, f(1, 3), f(1, 3)}, {5, 5, f(2, 3), f(32, 243)},
		{59, 59, f(1, 2), f(1, 576460752303423488)}, {59, 0, f(1, 2), f(1, 1)}, {59, 30, f(1, 2), f(1, 2)},
		{59, 1, f(0, 1), f(0, 1)}, {59, 0, f(0, 1), f(1, 1)}, {59, 59, f(1, 1), f(1, 1)}, {59, 30, f(1, 1), f(1, 1)},
		{17, 17, f(1, 10), f(1, 100000000000000000)}, {1, 1, f(1, 999999999999999999), f(1, 999999999999999999)},
	} {
		if got, e := sample.Confidence(c.n, c.k, c.p); got != c.want || e != api.OK {
			t.Errorf("Confidence(%d, %d, %v) = %v, %d", c.n, c.k, c.p, got, e)
		}
	}
	for i, c := range []struct {
		n, k int
		p    api.Frac
		e    api.Errno
	}{
		{3, 2, f(2, 4), api.ErrInvalid}, {3, 2, f(-1, 2), api.ErrInvalid}, {3, 2, f(3, 2), api.ErrInvalid}, {3, 2, api.Frac{}, api.ErrInvalid}, {3, 2, f(0, 2), api.ErrInvalid},
		{0, 0, f(1, 2), api.ErrInvalid}, {60, 2, f(1, 2), api.ErrInvalid}, {-1, 0, f(1, 2), api.ErrInvalid}, {3, 4, f(1, 2), api.ErrInvalid}, {3, -1, f(1, 2), api.ErrInvalid}, {3, math.MaxInt, f(1, 2), api.ErrInvalid}, {math.MaxInt, 3, f(1, 2), api.ErrInvalid},
		{18, 1, f(1, 10), api.ErrRange}, {38, 1, f(1, 3), api.ErrRange}, {37, 1, f(1, 3), api.OK}, {2, 1, f(1, 1000000000), api.ErrRange}, {2, 1, f(1, 999999999), api.OK}, {59, 0, f(1, 999999999999999999), api.ErrRange},
	} {
		got, e := sample.Confidence(c.n, c.k, c.p)
		if e != c.e || e != api.OK && got != (api.Frac{}) {
			t.Errorf("Confidence %d = %v, %d", i, got, e)
		}
	}
}

// P33.3
func TestLeast(t *testing.T) {
	for i, c := range []struct {
		k             int
		p, confidence api.Frac
		want          int
		e             api.Errno
	}{
		{1, f(1, 2), f(9, 10), 4, api.OK}, {1, f(1, 2), f(7, 8), 3, api.OK}, {1, f(1, 2), f(15, 16), 4, api.OK}, {5, f(1, 2), f(0, 1), 5, api.OK}, {5, f(1, 1), f(1, 1), 5, api.OK},
		{30, f(1, 2), f(1, 2), 59, api.OK}, {31, f(1, 2), f(1, 2), 0, api.ErrNone}, {1, f(1, 2), f(1, 1), 0, api.ErrNone}, {1, f(0, 1), f(1, 2), 0, api.ErrNone},
		{1, f(1, 10), f(9, 10), 0, api.ErrNone}, {18, f(1, 10), f(0, 1), 0, api.ErrNone}, {17, f(1, 10), f(0, 1), 17, api.OK}, {59, f(1, 2), f(0, 1), 59, api.OK},
		{0, f(1, 2), f(1, 2), 0, api.ErrInvalid}, {60, f(1, 2), f(1, 2), 0, api.ErrInvalid}, {math.MinInt, f(1, 2), f(1, 2), 0, api.ErrInvalid},
		{1, f(2, 4), f(1, 2), 0, api.ErrInvalid}, {1, f(1, 2), f(2, 4), 0, api.ErrInvalid}, {1, f(3, 2), f(1, 2), 0, api.ErrInvalid}, {1, f(1, 2), f(3, 2), 0, api.ErrInvalid}, {1, f(1, 2), f(-1, 2), 0, api.ErrInvalid}, {1, f(-1, 2), f(1, 2), 0, api.ErrInvalid},
	} {
		if n, e := sample.Least(c.k, c.p, c.confidence); n != c.want || e != c.e {
			t.Errorf("Least %d = %d, %d", i, n, e)
		}
	}
}

// P33.1, P1: each error, and which one comes first.
func TestErrors(t *testing.T) {
	with := func(change func(list []api.Test)) []api.Test {
		list := strong(1, 2, 3, 4, 5)
		change(list)
		return list
	}
	for i, c := range []struct {
		list []api.Test
		e    api.Errno
	}{
		{make([]api.Test, api.MaxTests+1), api.ErrTooMany},
		{with(func(s []api.Test) { s[4].Sample, s[0].Strength = "S", -1 }), api.ErrName},
		{with(func(s []api.Test) { s[4].Sample, s[0].Strength = strings.Repeat("s", 25), -1 }), api.ErrName},
		{with(func(s []api.Test) { s[4].Strength, s[1].Sample = -1, "s0" }), api.ErrRange},
		{with(func(s []api.Test) { s[4].Strength, s[1].Sample = 1000001, "s0" }), api.ErrRange},
		{with(func(s []api.Test) { s[4].Absorption, s[1].Sample = -1, "s0" }), api.ErrRange},
		{with(func(s []api.Test) { s[4].Absorption, s[1].Sample = 1000001, "s0" }), api.ErrRange},
		{with(func(s []api.Test) { s[4].Sample = "s0" }), api.ErrDuplicate},
	} {
		strength, e1 := sample.Strength(c.list, 0)
		absorption, e2 := sample.Absorption(c.list, 0)
		rank, e3 := sample.Rank(c.list, 9)
		lo, hi, e4 := sample.Median(c.list)
		names, e5 := sample.Outliers(c.list)
		for k, e := range []api.Errno{sample.Check(c.list), e1, e2, e3, e4, e5} {
			if e != c.e {
				t.Errorf("refusal %d, function %d: %d, want %d", i, k, e, c.e)
			}
		}
		if strength+absorption+rank+lo+hi+len(names) != 0 {
			t.Errorf("refusal %d has results", i)
		}
	}
	for _, k := range []int{0, -1, 6, math.MaxInt, math.MinInt} {
		_, e1 := sample.Strength(strong(1, 2, 3, 4, 5), k)
		_, e2 := sample.Absorption(strong(1, 2, 3, 4, 5), k)
		if e1 != api.ErrNone || e2 != api.ErrNone {
			t.Errorf("k = %d: %d, %d", k, e1, e2)
		}
	}
	if _, _, e := sample.Median(nil); e != api.ErrNone {
		t.Errorf("Median = %d", e)
	}
	if _, e := sample.Outliers(strong(1, 2, 3)); e != api.ErrNone {
		t.Errorf("Outliers = %d", e)
	}
	if e := sample.Check([]api.Test{{Sample: "a", Strength: sample.MaxStrength, Absorption: sample.MaxAbsorption}, {Sample: "b"}}); e != api.OK {
		t.Errorf("Check = %d", e)
	}
	if e := sample.Check(nil); e != api.OK {
		t.Errorf("Check = %d", e)
	}
}

// exact is the confidence by its definition.
func exact(n, k int, p api.Frac) *big.Rat {
	sum := new(big.Rat)
	for i := k; i <= n; i++ {
		term := new(big.Rat).SetInt(new(big.Int).Binomial(int64(n), int64(i)))
		for j := range n {
			factor := big.NewRat(p.Num, p.Den)
			if j >= i {
				factor.Sub(big.NewRat(1, 1), factor)
			}
			term.Mul(term, factor)
		}
		sum.Add(sum, term)
	}
	return sum
}

// P33.2, P33.3, P33.5
func TestConfidences(t *testing.T) {
	for _, p := range []api.Frac{f(1, 2), f(1, 3), f(5, 7), f(9, 10), f(1, 40), f(0, 1), f(1, 1)} {
		for n := 1; n <= 20; n++ {
			for k := range n + 1 {
				c, e := sample.Confidence(n, k, p)
				if e != api.OK {
					continue
				}
				if want := exact(n, k, p); want.Cmp(big.NewRat(c.Num, c.Den)) != 0 {
					t.Fatalf("Confidence(%d, %d, %v) = %v, want %v", n, k, p, c, want)
				}
				checkConfidence(t, n, k, p, c)
			}
		}
	}
}

func checkConfidence(t *testing.T, n, k int, p, c api.Frac) {
	if k == 0 {
		if c != f(1, 1) {
			t.Fatalf("Confidence(%d, 0, %v) = %v", n, p, c)
		}
		return
	}
	before, _ := sample.Confidence(n, k-1, p)
	other, _ := fraction.Sub(f(1, 1), p)
	rest, _ := sample.Confidence(n, n-k+1, other)
	sum, _ := fraction.Add(c, rest)
	if fraction.Cmp(before, c) < 0 || sum != f(1, 1) {
		t.Fatalf("Confidence(%d, %d, %v) = %v; %v, %v", n, k, p, c, before, rest)
	}
	if more, e := sample.Confidence(n+1, k, p); e == api.OK && fraction.Cmp(more, c) < 0 {
		t.Fatalf("Confidence(%d, %d, %v) = %v", n+1, k, p, more)
	}
	least, e := sample.Least(k, p, c)
	at, _ := sample.Confidence(least, k, p)
	if e != api.OK || least > n || fraction.Cmp(at, c) < 0 {
		t.Fatalf("Least(%d, %v, %v) = %d, %d", k, p, c, least, e)
	}
	if less, e := sample.Confidence(least-1, k, p); e == api.OK && fraction.Cmp(less, c) >= 0 {
		t.Fatalf("Least(%d, %v, %v) = %d", k, p, c, least)
	}
}

// P33.5
func TestOrders(t *testing.T) {
	r := rand.New(rand.NewSource(1))
	for range 500 {
		var list []api.Test
		for i := range 1 + r.Intn(9) {
			list = append(list, api.Test{Sample: "s" + strconv.Itoa(i), Strength: r.Intn(6), Absorption: r.Intn(6)})
		}
		mixed := slices.Clone(list)
		r.Shuffle(len(mixed), func(i, k int) { mixed[i], mixed[k] = mixed[k], mixed[i] })
		for k := 1; k <= len(list); k++ {
			s, _ := sample.Strength(list, k)
			a, _ := sample.Absorption(list, k)
			less, _ := sample.Rank(list, s)
			most, _ := sample.Rank(list, s+1)
			other, _ := sample.Strength(mixed, k)
			another, _ := sample.Absorption(mixed, k)
			if less >= k || most < k || s != other || a != another {
				t.Fatalf("%v: the strength %d is %d, the absorption %d", list, k, s, a)
			}
			if next, e := sample.Strength(list, k+1); e == api.OK && next < s {
				t.Fatalf("%v: the strength %d is %d", list, k+1, next)
			}
			if next, e := sample.Absorption(list, k+1); e == api.OK && next > a {
				t.Fatalf("%v: the absorption %d is %d", list, k+1, next)
			}
		}
		one, _ := sample.Outliers(list)
		two, _ := sample.Outliers(mixed)
		if !slices.Equal(one, two) {
			t.Fatalf("%v, %v", one, two)
		}
	}
}
