package fraction_test

import (
	"math"
	"math/big"
	"math/rand"
	"regexp"
	"strings"
	"testing"

	"gangsaw/api"
	"gangsaw/fraction"
)

const top = fraction.Bound - 1

func fr(num, den int64) api.Frac { return api.Frac{Num: num, Den: den} }

// wrong are values that are no fractions.
func wrong() []api.Frac {
	return []api.Frac{
		fr(0, 0), fr(1, 0), fr(1, -1), fr(-1, -2), fr(0, 2), fr(0, -1), fr(2, 4), fr(-3, 6), fr(6, 3), fr(fraction.Bound, 1), fr(-fraction.Bound, 1),
		fr(1, fraction.Bound), fr(1, math.MaxInt64), fr(1, math.MinInt64), fr(math.MinInt64, 1), fr(math.MaxInt64, 1), fr(math.MinInt64, math.MinInt64),
	}
}

// P4.1
func TestValid(t *testing.T) {
	for _, f := range []api.Frac{fr(0, 1), fr(1, 1), fr(-1, 1), fr(1, 2), fr(-3, 2), fr(3, 2), fr(top, 1), fr(-top, 1), fr(1, top), fr(-1, top), fr(top, top-1), fr(top-1, top)} {
		if !fraction.Valid(f) {
			t.Errorf("%v is not valid", f)
		}
	}
	for _, f := range wrong() {
		if fraction.Valid(f) {
			t.Errorf("%v is valid", f)
		}
	}
}

// P4.1
func TestNew(t *testing.T) {
	for _, c := range []struct {
		num, den int64
		want     api.Frac
		e        api.Errno
	}{
		{6, -4, fr(-3, 2), api.OK},
		{-6, -4, fr(3, 2), api.OK},
		{-6, 4, fr(-3, 2), api.OK},
		{5, 2, fr(5, 2), api.OK},
		{0, 7, fr(0, 1), api.OK},
		{0, -7, fr(0, 1), api.OK},
		{7, 7, fr(1, 1), api.OK},
		{12, 4, fr(3, 1), api.OK},
		{4, 12, fr(1, 3), api.OK},
		{0, math.MinInt64, fr(0, 1), api.OK},
		{math.MinInt64, math.MinInt64, fr(1, 1), api.OK},
		{math.MinInt64, math.MaxInt64, fr(0, 0), api.ErrRange},
		{math.MinInt64, 16, fr(-(1 << 59), 1), api.OK},
		{math.MinInt64, -16, fr(1<<59, 1), api.OK},
		{16, math.MinInt64, fr(-1, 1<<59), api.OK},
		{-16, math.MinInt64, fr(1, 1<<59), api.OK},
		{math.MinInt64, 1, fr(0, 0), api.ErrRange},
		{math.MinInt64, -1, fr(0, 0), api.ErrRange},
		{1, math.MinInt64, fr(0, 0), api.ErrRange},
		{math.MinInt64, 8, fr(0, 0), api.ErrRange},
		{top, 1, fr(top, 1), api.OK},
		{-top, 1, fr(-top, 1), api.OK},
		{1, -top, fr(-1, top), api.OK},
		{fraction.Bound, 1, fr(0, 0), api.ErrRange},
		{-fraction.Bound, 1, fr(0, 0), api.ErrRange},
		{1, fraction.Bound, fr(0, 0), api.ErrRange},
		{1, -fraction.Bound, fr(0, 0), api.ErrRange},
		{fraction.Bound, 2, fr(fraction.Bound/2, 1), api.OK},
		{2, fraction.Bound, fr(1, fraction.Bound/2), api.OK},
		{2 * top, 2, fr(top, 1), api.OK},
		{1, 0, fr(0, 0), api.ErrInvalid},
		{0, 0, fr(0, 0), api.ErrInvalid},
		{math.MinInt64, 0, fr(0, 0), api.ErrInvalid},
	} {
		if got, e := fraction.New(c.num, c.den); got != c.want || e != c.e {
			t.Errorf("New(%d, %d) = %v, %d, want %v, %d", c.num, c.den, got, e, c.want, c.e)
		}
	}
}

type operation struct {
	name  string
	call  func(a, b api.Frac) (api.Frac, api.Errno)
	exact func(z, x, y *big.Rat) *big.Rat
}

func operations() []operation {
	return []operation{
		{"Add", fraction.Add, (*big.Rat).Add},
		{"Sub", fraction.Sub, (*big.Rat).Sub},
		{"Mul", fraction.Mul, (*big.Rat).Mul},
		{"Div", fraction.Div, (*big.Rat).Quo},
	}
}

// P4.2
func TestOperations(t *testing.T) {
	half := int64(fraction.Bound / 2)
	for _, c := range []struct {
		name    string
		a, b, r api.Frac
		e       api.Errno
	}{
		{"Add", fr(1, 3), fr(1, 6), fr(1, 2), api.OK},
		{"Add", fr(1, 3), fr(-1, 3), fr(0, 1), api.OK},
		{"Add", fr(-5, 6), fr(-7, 10), fr(-23, 15), api.OK},
		{"Add", fr(half, 1), fr(half-1, 1), fr(top, 1), api.OK},
		{"Add", fr(half, 1), fr(half, 1), fr(0, 0), api.ErrRange},
		{"Add", fr(-half, 1), fr(-half, 1), fr(0, 0), api.ErrRange},
		{"Add", fr(1, top), fr(1, top-1), fr(0, 0), api.ErrRange},
		{"Add", fr(1, top), fr(-1, top), fr(0, 1), api.OK},
		{"Add", fr(1, top), fr(2, top), fr(1, top/3), api.OK},
		{"Add", fr(top, 1), fr(-top, 1), fr(0, 1), api.OK},
		{"Add", fr(top, 1), fr(1, 2), fr(0, 0), api.ErrRange},
		{"Sub", fr(1, 2), fr(1, 3), fr(1, 6), api.OK},
		{"Sub", fr(1, 3), fr(1, 2), fr(-1, 6), api.OK},
		{"Sub", fr(-top, 1), fr(1, 1), fr(0, 0), api.ErrRange},
		{"Sub", fr(-top, 1), fr(-1, 1), fr(1-top, 1), api.OK},
		// The products are 2^64 + 2 and 2^64 - 6.
		{"Sub", fr(970881267037344822, 23), fr(802032351030850070, 19), fr(8, 437), api.OK},
		{"Add", fr(-970881267037344822, 23), fr(802032351030850070, 19), fr(-8, 437), api.OK},
		{"Mul", fr(2, 3), fr(3, 2), fr(1, 1), api.OK},
		{"Mul", fr(-2, 3), fr(9, 4), fr(-3, 2), api.OK},
		{"Mul", fr(-2, 3), fr(-9, 4), fr(3, 2), api.OK},
		{"Mul", fr(0, 1), fr(-2, top), fr(0, 1), api.OK},
		{"Mul", fr(top, top-1), fr(top-1, top), fr(1, 1), api.OK},
		{"Mul", fr(1000000000, 1), fr(1000000000, 1), fr(0, 0), api.ErrRange},
		{"Mul", fr(1, 1000000000), fr(-1, 1000000000), fr(0, 0), api.ErrRange},
		{"Mul", fr(1000000000, 1), fr(-999999999, 1), fr(-999999999000000000, 1), api.OK},
		{"Mul", fr(top, 1), fr(top, 1), fr(0, 0), api.ErrRange},
		{"Div", fr(1, 3), fr(2, 3), fr(1, 2), api.OK},
		{"Div", fr(1, 3), fr(-2, 3), fr(-1, 2), api.OK},
		{"Div", fr(-1, 3), fr(-2, 3), fr(1, 2), api.OK},
		{"Div", fr(0, 1), fr(-2, 3), fr(0, 1), api.OK},
		{"Div", fr(1, top), fr(1, top), fr(1, 1), api.OK},
		{"Div", fr(1, top), fr(2, 1), fr(0, 0), api.ErrRange},
		{"Div", fr(1, 2), fr(0, 1), fr(0, 0), api.ErrInvalid},
		{"Div", fr(0, 1), fr(0, 1), fr(0, 0), api.ErrInvalid},
	} {
		for _, o := range operations() {
			if o.name != c.name {
				continue
			}
			if got, e := o.call(c.a, c.b); got != c.r || e != c.e {
				t.Errorf("%s(%v, %v) = %v, %d, want %v, %d", c.name, c.a, c.b, got, e, c.r, c.e)
			}
		}
	}
}

// P4.2
func TestPower(t *testing.T) {
	for _, c := range []struct {
		a    api.Frac
		n    int
		want api.Frac
		e    api.Errno
	}{
		{fr(2, 3), 3, fr(8, 27), api.OK},
		{fr(-2, 3), 3, fr(-8, 27), api.OK},
		{fr(-2, 3), 2, fr(4, 9), api.OK},
		{fr(-2, 3), 1, fr(-2, 3), api.OK},
		{fr(-2, 3), 0, fr(1, 1), api.OK},
		{fr(0, 1), 0, fr(1, 1), api.OK},
		{fr(0, 1), 64, fr(0, 1), api.OK},
		{fr(1, 1), 64, fr(1, 1), api.OK},
		{fr(-1, 1), 64, fr(1, 1), api.OK},
		{fr(-1, 1), 63, fr(-1, 1), api.OK},
		{fr(2, 1), 59, fr(1<<59, 1), api.OK},
		{fr(2, 1), 60, fr(0, 0), api.ErrRange},
		{fr(2, 1), 64, fr(0, 0), api.ErrRange},
		{fr(1, 2), 59, fr(1, 1<<59), api.OK},
		{fr(1, 2), 60, fr(0, 0), api.ErrRange},
		{fr(10, 1), 17, fr(100000000000000000, 1), api.OK},
		{fr(10, 1), 18, fr(0, 0), api.ErrRange},
		{fr(1<<32, 1), 2, fr(0, 0), api.ErrRange},
		{fr(top, 1), 1, fr(top, 1), api.OK},
		{fr(2, 3), -1, fr(0, 0), api.ErrInvalid},
		{fr(1, 1), 65, fr(0, 0), api.ErrInvalid},
		{fr(1, 1), math.MinInt, fr(0, 0), api.ErrInvalid},
		{fr(1, 1), math.MaxInt, fr(0, 0), api.ErrInvalid},
		{fr(2, 4), 1, fr(0, 0), api.ErrInvalid},
		{fr(2, 4), 0, fr(0, 0), api.ErrInvalid},
	} {
		if got, e := fraction.Power(c.a, c.n); got != c.want || e != c.e {
			t.Errorf("Power(%v, %d) = %v, %d, want %v, %d", c.a, c.n, got, e, c.want, c.e)
		}
	}
}

// P4.3
func TestFloorAndRound(t *testing.T) {
	for _, c := range []struct {
		a            api.Frac
		floor, round int64
	}{
		{fr(-3, 2), -2, -2},
		{fr(3, 2), 1, 2},
		{fr(5, 2), 2, 3},
		{fr(-5, 2), -3, -3},
		{fr(1, 3), 0, 0},
		{fr(2, 3), 0, 1},
		{fr(-1, 3), -1, 0},
		{fr(-2, 3), -1, -1},
		{fr(1, 2), 0, 1},
		{fr(-1, 2), -1, -1},
		{fr(0, 1), 0, 0},
		{fr(7, 1), 7, 7},
		{fr(-7, 1), -7, -7},
		{fr(top, 1), top, top},
		{fr(-top, 1), -top, -top},
		{fr(1, top), 0, 0},
		{fr(-1, top), -1, 0},
		{fr(top-1, top), 0, 1},
		{fr(1-top, top), -1, -1},
		{fr(top, 2), top / 2, top/2 + 1},
		{fr(-top, 2), -top/2 - 1, -top/2 - 1},
		{fr(top/2, top), 0, 0},
		{fr(top/2+1, top), 0, 1},
	} {
		if got := fraction.Floor(c.a); got != c.floor {
			t.Errorf("Floor(%v) = %d, want %d", c.a, got, c.floor)
		}
		if got := fraction.Round(c.a); got != c.round {
			t.Errorf("Round(%v) = %d, want %d", c.a, got, c.round)
		}
	}
}

// P4.3
func TestCmp(t *testing.T) {
	ordered := []api.Frac{
		fr(-top, 1), fr(-top, top-1), fr(-1, 1), fr(1-top, top), fr(-2, 3), fr(-1, 2), fr(-1, top), fr(0, 1),
		fr(1, top), fr(1, top-1), fr(1, 3), fr(1, 2), fr(2, 3), fr(top-2, top-1), fr(top-1, top), fr(1, 1), fr(top, top-1), fr(top-1, top-2), fr(3, 2), fr(top-1, 1), fr(top, 1),
	}
	for i, a := range ordered {
		for k, b := range ordered {
			want := 0
			if i < k {
				want = -1
			} else if i > k {
				want = 1
			}
			if got := fraction.Cmp(a, b); got != want {
				t.Errorf("Cmp(%v, %v) = %d, want %d", a, b, got, want)
			}
		}
	}
}

// P1: what is no fraction is refused, wherever it stands.
func TestInvalid(t *testing.T) {
	good := fr(3, 2)
	for _, f := range wrong() {
		for _, p := range [][2]api.Frac{{f, good}, {good, f}, {f, f}, {f, fr(0, 1)}} {
			for _, o := range operations() {
				if got, e := o.call(p[0], p[1]); got != fr(0, 0) || e != api.ErrInvalid {
					t.Errorf("%s(%v) = %v, %d", o.name, p, got, e)
				}
			}
			if got, e := fraction.Simplest(p[0], p[1]); got != fr(0, 0) || e != api.ErrInvalid {
				t.Errorf("Simplest(%v) = %v, %d", p, got, e)
			}
			if got := fraction.Cmp(p[0], p[1]); got != 0 {
				t.Errorf("Cmp(%v) = %d", p, got)
			}
		}
		if got, e := fraction.Power(f, 2); got != fr(0, 0) || e != api.ErrInvalid {
			t.Errorf("Power(%v) = %v, %d", f, got, e)
		}
		if got, e := fraction.Text(f); got != "" || e != api.ErrInvalid {
			t.Errorf("Text(%v) = %q, %d", f, got, e)
		}
		if fraction.Floor(f) != 0 || fraction.Round(f) != 0 {
			t.Errorf("Floor or Round of %v is not 0", f)
		}
	}
}

// P4.4
func TestSimplest(t *testing.T) {
	for _, c := range []struct {
		a, b, want api.Frac
		e          api.Errno
	}{
		{fr(3, 10), fr(2, 5), fr(1, 3), api.OK},
		{fr(9, 10), fr(11, 10), fr(1, 1), api.OK},
		{fr(-7, 2), fr(-3, 2), fr(-2, 1), api.OK},
		{fr(-1, 1), fr(5, 1), fr(0, 1), api.OK},
		{fr(0, 1), fr(5, 1), fr(0, 1), api.OK},
		{fr(-5, 1), fr(0, 1), fr(0, 1), api.OK},
		{fr(0, 1), fr(0, 1), fr(0, 1), api.OK},
		{fr(2, 1), fr(5, 1), fr(2, 1), api.OK},
		{fr(-5, 1), fr(-2, 1), fr(-2, 1), api.OK},
		{fr(5, 2), fr(3, 1), fr(3, 1), api.OK},
		{fr(5, 2), fr(14, 5), fr(5, 2), api.OK},
		{fr(12, 5), fr(14, 5), fr(5, 2), api.OK},
		{fr(-14, 5), fr(-12, 5), fr(-5, 2), api.OK},
		{fr(1, 3), fr(1, 2), fr(1, 2), api.OK},
		{fr(1, 7), fr(1, 3), fr(1, 3), api.OK},
		{fr(2, 7), fr(1, 3), fr(1, 3), api.OK},
		{fr(7, 5), fr(7, 5), fr(7, 5), api.OK},
		{fr(62831, 20000), fr(62833, 20000), fr(355, 113), api.OK},
		{fr(1, top), fr(1, top-1), fr(1, top-1), api.OK},
		{fr(top-1, top), fr(top-1, top), fr(top-1, top), api.OK},
		{fr(1, top), fr(top, 1), fr(1, 1), api.OK},
		{fr(-top, 1), fr(-1, top), fr(-1, 1), api.OK},
		{fr(1, 2), fr(1, 3), fr(0, 0), api.ErrInvalid},
		{fr(-1, 3), fr(-1, 2), fr(0, 0), api.ErrInvalid},
		{fr(1, 1), fr(-1, 1), fr(0, 0), api.ErrInvalid},
	} {
		if got, e := fraction.Simplest(c.a, c.b); got != c.want || e != c.e {
			t.Errorf("Simplest(%v, %v) = %v, %d, want %v, %d", c.a, c.b, got, e, c.want, c.e)
		}
	}
}

// P4.5
func TestText(t *testing.T) {
	for text, f := range map[string]api.Frac{
		"0": fr(0, 1), "1": fr(1, 1), "-1": fr(-1, 1), "-3/2": fr(-3, 2), "3/2": fr(3, 2), "10/7": fr(10, 7),
		"999999999999999999": fr(top, 1), "-999999999999999999": fr(-top, 1), "1/999999999999999999": fr(1, top),
		"-999999999999999998/999999999999999999": fr(1-top, top),
	} {
		if got, e := fraction.Text(f); got != text || e != api.OK {
			t.Errorf("Text(%v) = %q, %d, want %q", f, got, e, text)
		}
		if got, e := fraction.Parse(text); got != f || e != api.OK {
			t.Errorf("Parse(%q) = %v, %d, want %v", text, got, e, f)
		}
	}
	for _, s := range []string{
		"", "-", "/", "1/", "/2", "-/2", "2/4", "02", "1/1", "0/1", "0/2", "-0", "+1", "+1/2", "1/+2", "1/-2", "-1/-2", "1/02", "01/2", "1/0", "0/0",
		" 1", "1 ", "1 /2", "1/ 2", "1/2/3", "1//2", "1_0", "0x1", "1e3", "1.5", "a", "1/a", "a/2", "--1", "\u0661", "1\x00", "1\n",
		"1000000000000000000", "-1000000000000000000", "1/1000000000000000000", "9223372036854775808", "1/18446744073709551617",
		"18446744073709551617", "-9223372036854775808", strings.Repeat("1", 100000), strings.Repeat("0", 100000) + "1", "1/" + strings.Repeat("/", 1000),
	} {
		if got, e := fraction.Parse(s); got != fr(0, 0) || e != api.ErrSyntax {
			t.Errorf("Parse(%.40q) = %v, %d", s, got, e)
		}
	}
}

// P4.5: of all short strings, Parse accepts exactly the texts.
func TestParseOfShortStrings(t *testing.T) {
	form := regexp.MustCompile("^(?:0|(-?[1-9][0-9]*)(?:/([1-9][0-9]*))?)$")
	var visit func(s string)
	visit = func(s string) {
		m := form.FindStringSubmatch(s)
		ok := m != nil
		if ok && m[2] != "" {
			x, _ := new(big.Rat).SetString(s)
			ok = m[2] != "1" && x.RatString() == s
		}
		if got, e := fraction.Parse(s); ok != (e == api.OK) || ok != fraction.Valid(got) || !ok && e != api.ErrSyntax {
			t.Fatalf("Parse(%q) = %v, %d", s, got, e)
		} else if text, _ := fraction.Text(got); ok && text != s {
			t.Fatalf("Text(%v) = %q, not %q", got, text, s)
		}
		if len(s) == 5 {
			return
		}
		for _, c := range "01269-/+" {
			visit(s + string(c))
		}
	}
	visit("")
}

func someFraction(r *rand.Rand) api.Frac {
	limit := []int64{3, 20, 1000, 1000000000, top}[r.Intn(5)]
	den := []int64{2, 20, 1000, 1000000000, top}[r.Intn(5)]
	f, _ := fraction.New(r.Int63n(2*limit+1)-limit, 1+r.Int63n(den))
	return f
}

func rat(f api.Frac) *big.Rat { return big.NewRat(f.Num, f.Den) }

// fromRat is the fraction of a rational number, if it is in range.
func fromRat(x *big.Rat) (api.Frac, api.Errno) {
	num, den := x.Num(), x.Denom()
	limit := big.NewInt(fraction.Bound)
	if num.CmpAbs(limit) >= 0 || den.Cmp(limit) >= 0 {
		return api.Frac{}, api.ErrRange
	}
	return fr(num.Int64(), den.Int64()), api.OK
}

// P4.2, P4.3, P4.6: compared with the rational numbers of the library.
func TestAgainstRationals(t *testing.T) {
	r := rand.New(rand.NewSource(1))
	seen := map[api.Errno]int{}
	for range 40000 {
		a, b := someFraction(r), someFraction(r)
		if !fraction.Valid(a) {
			t.Fatalf("New gives %v", a)
		}
		x, y := rat(a), rat(b)
		for _, o := range operations() {
			if o.name == "Div" && b.Num == 0 {
				continue
			}
			want, e := fromRat(o.exact(new(big.Rat), x, y))
			seen[e]++
			if got, f := o.call(a, b); got != want || f != e {
				t.Fatalf("%s(%v, %v) = %v, %d, want %v, %d", o.name, a, b, got, f, want, e)
			}
		}
		if got := fraction.Cmp(a, b); got != x.Cmp(y) {
			t.Fatalf("Cmp(%v, %v) = %d", a, b, got)
		}
		checkPower(t, a, r.Intn(65))
		checkFloor(t, a)
	}
	if len(seen) != 2 || seen[api.ErrRange] < 1000 {
		t.Errorf("errors seen: %v", seen)
	}
}

func checkPower(t *testing.T, a api.Frac, n int) {
	product := big.NewRat(1, 1)
	for range n {
		product.Mul(product, rat(a))
	}
	want, e := fromRat(product)
	if got, f := fraction.Power(a, n); got != want || f != e {
		t.Fatalf("Power(%v, %d) = %v, %d, want %v, %d", a, n, got, f, want, e)
	}
}

func checkFloor(t *testing.T, a api.Frac) {
	floor := new(big.Int)
	floor.Div(big.NewInt(a.Num), big.NewInt(a.Den))
	if got := fraction.Floor(a); got != floor.Int64() {
		t.Fatalf("Floor(%v) = %d", a, got)
	}
	// |a| + 1/2, rounded down, has the magnitude of the nearest integer.
	near := new(big.Rat).Abs(rat(a))
	near.Add(near, big.NewRat(1, 2))
	floor.Div(near.Num(), near.Denom())
	if a.Num < 0 {
		floor.Neg(floor)
	}
	if got := fraction.Round(a); got != floor.Int64() {
		t.Fatalf("Round(%v) = %d, want %v", a, got, floor)
	}
}

// simplestByTrial tries all denominators.
func simplestByTrial(a, b api.Frac) api.Frac {
	x, y := rat(a), rat(b)
	for den := int64(1); ; den++ {
		best, found := int64(0), false
		lo := fraction.Floor(a)*den - 1
		hi := (fraction.Floor(b) + 1) * den
		for num := lo; num <= hi; num++ {
			q := big.NewRat(num, den)
			if q.Cmp(x) >= 0 && q.Cmp(y) <= 0 && (!found || max(num, -num) < max(best, -best)) {
				best, found = num, true
			}
		}
		if found {
			return fr(best, den)
		}
	}
}

// P4.4, P4.6
func TestSimplestByTrial(t *testing.T) {
	r := rand.New(rand.NewSource(2))
	for range 4000 {
		a, _ := fraction.New(r.Int63n(81)-40, 1+r.Int63n(25))
		b, _ := fraction.New(r.Int63n(81)-40, 1+r.Int63n(25))
		if fraction.Cmp(a, b) > 0 {
			a, b = b, a
		}
		got, e := fraction.Simplest(a, b)
		if want := simplestByTrial(a, b); got != want || e != api.OK {
			t.Fatalf("Simplest(%v, %v) = %v, %d, want %v", a, b, got, e, want)
		}
		if one, f := fraction.Simplest(a, a); one != a || f != api.OK {
			t.Fatalf("Simplest(%v, %v) = %v, %d", a, a, one, f)
		}
	}
}

// P4.4, P4.6: great numbers; what is found lies in the range, is valid, and is no less simple than in a narrower range.
func TestSimplestOfGreatFractions(t *testing.T) {
	r := rand.New(rand.NewSource(3))
	for range 20000 {
		list := []api.Frac{someFraction(r), someFraction(r), someFraction(r)}
		for i := range list {
			for k := range i {
				if fraction.Cmp(list[k], list[i]) > 0 {
					list[i], list[k] = list[k], list[i]
				}
			}
		}
		wide, e := fraction.Simplest(list[0], list[2])
		narrow, f := fraction.Simplest(list[0], list[1])
		if e != api.OK || f != api.OK || !fraction.Valid(wide) || !fraction.Valid(narrow) || wide.Den > narrow.Den {
			t.Fatalf("of %v: %v, %d, %v, %d", list, wide, e, narrow, f)
		}
		if fraction.Cmp(list[0], wide) > 0 || fraction.Cmp(wide, list[2]) > 0 {
			t.Fatalf("Simplest(%v, %v) = %v", list[0], list[2], wide)
		}
	}
}
