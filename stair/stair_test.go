package stair_test

import (
	"math"
	"math/rand"
	"slices"
	"testing"

	"gangsaw/api"
	"gangsaw/box"
	"gangsaw/stair"
)

func in(lo, hi int) api.Interval { return api.Interval{Lo: lo, Hi: hi} }

func bx(x, y, z, x2, y2, z2 int) api.Box {
	return api.Box{Min: api.Vec{X: x, Y: y, Z: z}, Max: api.Vec{X: x2, Y: y2, Z: z2}}
}

// rule and flight are those of the chapter's examples.
func rule() stair.Rule {
	return stair.Rule{Rise: in(150, 180), Going: in(260, 320), Pace: in(590, 650)}
}

func flight() stair.Flight {
	return stair.Flight{Rises: 6, Rise: 166, Extra: 4, Going: 316, Width: 1200, Lap: 30}
}

// P42.1 to P42.4: the examples.
func TestExamples(t *testing.T) {
	if f, e := stair.Plan(rule(), 1000, 2000, 1200, 30); f != flight() || e != api.OK {
		t.Errorf("Plan = %v, %d", f, e)
	}
	for i, want := range []int{167, 334, 501, 668, 834, 1000} {
		if n, e := stair.Level(flight(), i); n != want || e != api.OK {
			t.Errorf("Level(%d) = %d, %d", i, n, e)
		}
	}
	stones, e := stair.Stones(flight())
	if len(stones) != 6 || stones[0] != bx(0, 0, 0, 346, 1200, 167) || stones[1] != bx(316, 0, 167, 662, 1200, 334) || stones[5] != bx(1580, 0, 834, 1926, 1200, 1000) || e != api.OK {
		t.Errorf("Stones = %v, %d", stones, e)
	}
	if h, l, e := stair.Height(flight()); h != 1000 || l != 1896 || e != api.OK {
		t.Errorf("Height = %d, %d, %d", h, l, e)
	}
	if i, e := stair.Spread(flight(), 2); i != in(988, 1012) || e != api.OK {
		t.Errorf("Spread = %v, %d", i, e)
	}
	if n, e := stair.Even([]int{165, 334, 500}); n != 4 || e != api.OK {
		t.Errorf("Even = %d, %d", n, e)
	}
	if v, e := stair.Sill(900, 100, 250, 40, 120); v != (api.Vec{X: 1100, Y: 290, Z: 120}) || e != api.OK {
		t.Errorf("Sill = %v, %d", v, e)
	}
	if e := stair.Fits(rule(), flight()); e != api.OK {
		t.Errorf("Fits = %d", e)
	}
}

// P42.1, P42.2, P1: rules.
func TestRuleErrors(t *testing.T) {
	for i, c := range []struct {
		change func(r *stair.Rule)
		e      api.Errno
	}{
		{func(r *stair.Rule) { r.Rise.Lo, r.Pace.Lo = 0, 9999 }, api.ErrRange}, {func(r *stair.Rule) { r.Rise.Hi = 10001 }, api.ErrRange}, {func(r *stair.Rule) { r.Going.Lo = -1 }, api.ErrRange}, {func(r *stair.Rule) { r.Going.Hi = math.MaxInt }, api.ErrRange},
		{func(r *stair.Rule) { r.Pace.Lo, r.Rise.Lo = 0, 181 }, api.ErrRange}, {func(r *stair.Rule) { r.Pace.Hi = 30001 }, api.ErrRange}, {func(r *stair.Rule) { r.Pace.Hi = math.MinInt }, api.ErrRange}, {func(r *stair.Rule) { r.Rise.Lo = 10001 }, api.ErrRange},
		{func(r *stair.Rule) { r.Rise.Lo = 181 }, api.ErrInvalid}, {func(r *stair.Rule) { r.Going.Lo = 321 }, api.ErrInvalid}, {func(r *stair.Rule) { r.Pace.Lo = 651 }, api.ErrInvalid},
	} {
		r := rule()
		c.change(&r)
		f, e1 := stair.Plan(r, 0, 0, 0, -1)
		e2 := stair.Fits(r, stair.Flight{})
		if e := stair.Check(r); e != c.e || e1 != c.e || e2 != c.e || f != (stair.Flight{}) {
			t.Errorf("rule %d: %d, %d, %d", i, e, e1, e2)
		}
	}
	if e := stair.Check(stair.Rule{Rise: in(1, 10000), Going: in(10000, 10000), Pace: in(1, 30000)}); e != api.OK {
		t.Errorf("Check = %d", e)
	}
}

// P42.1, P1: flights.
func TestFlights(t *testing.T) {
	for i, c := range []struct {
		change func(f *stair.Flight)
		e      api.Errno
	}{
		{func(f *stair.Flight) { f.Rises = 0 }, api.ErrInvalid}, {func(f *stair.Flight) { f.Rises = 65 }, api.ErrInvalid}, {func(f *stair.Flight) { f.Rises, f.Extra = math.MinInt, math.MaxInt }, api.ErrInvalid},
		{func(f *stair.Flight) { f.Rise = 0 }, api.ErrInvalid}, {func(f *stair.Flight) { f.Rise = 10001 }, api.ErrInvalid}, {func(f *stair.Flight) { f.Going = 0 }, api.ErrInvalid}, {func(f *stair.Flight) { f.Going = 10001 }, api.ErrInvalid}, {func(f *stair.Flight) { f.Going, f.Lap = math.MinInt, 0 }, api.ErrInvalid},
		{func(f *stair.Flight) { f.Width = 0 }, api.ErrInvalid}, {func(f *stair.Flight) { f.Width = 10001 }, api.ErrInvalid}, {func(f *stair.Flight) { f.Extra = -1 }, api.ErrInvalid}, {func(f *stair.Flight) { f.Extra = 6 }, api.ErrInvalid},
		{func(f *stair.Flight) { f.Lap = -1 }, api.ErrInvalid}, {func(f *stair.Flight) { f.Lap, f.Going = 1001, 5000 }, api.ErrInvalid}, {func(f *stair.Flight) { f.Lap = 316 }, api.ErrInvalid}, {func(f *stair.Flight) { f.Lap, f.Rise = 317, 9 }, api.ErrInvalid},
		{func(f *stair.Flight) { f.Lap = 315 }, api.OK}, {func(f *stair.Flight) { f.Extra, f.Rise, f.Going = 0, 149, 999 }, api.ErrRange}, {func(f *stair.Flight) { f.Extra, f.Rise, f.Going = 0, 150, 290 }, api.OK}, {func(f *stair.Flight) { f.Extra, f.Rise, f.Going = 0, 180, 290 }, api.OK}, {func(f *stair.Flight) { f.Extra, f.Rise, f.Going = 1, 180, 260 }, api.ErrRange}, {func(f *stair.Flight) { f.Rise, f.Going = 10000, 290 }, api.ErrRange},
		{func(f *stair.Flight) { f.Going = 259 }, api.ErrRange}, {func(f *stair.Flight) { f.Going = 321 }, api.ErrRange}, {func(f *stair.Flight) { f.Going = 317 }, api.ErrConflict}, {func(f *stair.Flight) { f.Going, f.Extra = 317, 0 }, api.OK}, {func(f *stair.Flight) { f.Going, f.Extra = 319, 0 }, api.ErrConflict},
		{func(f *stair.Flight) { f.Going, f.Rise = 289, 150 }, api.ErrConflict}, {func(f *stair.Flight) { f.Going, f.Rise = 290, 150 }, api.OK},
	} {
		f := flight()
		c.change(&f)
		if e := stair.Fits(rule(), f); e != c.e {
			t.Errorf("Fits %d = %d, want %d", i, e, c.e)
		}
		if c.e != api.ErrInvalid {
			continue
		}
		h, l, e1 := stair.Height(f)
		level, e2 := stair.Level(f, 99)
		stones, e3 := stair.Stones(f)
		spread, e4 := stair.Spread(f, -1)
		if e1 != c.e || e2 != c.e || e3 != c.e || e4 != c.e || h+l+level != 0 || stones != nil || spread != (api.Interval{}) {
			t.Errorf("flight %d: %d, %d, %d, %d", i, e1, e2, e3, e4)
		}
	}
	for _, n := range []int{-1, 6, math.MaxInt, math.MinInt} {
		if level, e := stair.Level(flight(), n); level != 0 || e != api.ErrNone {
			t.Errorf("Level(%d) = %d, %d", n, level, e)
		}
	}
	for _, n := range []int{-1, 1001, math.MaxInt, math.MinInt} {
		if i, e := stair.Spread(flight(), n); i != (api.Interval{}) || e != api.ErrRange {
			t.Errorf("Spread(%d) = %v, %d", n, i, e)
		}
	}
}

// P42.2, P1
func TestPlanErrors(t *testing.T) {
	for i, c := range []struct {
		height, length, width, lap int
		e                          api.Errno
	}{
		{0, 2000, 1200, 30, api.ErrRange}, {640001, 2000, 1200, 30, api.ErrRange}, {1000, 0, 1200, 30, api.ErrRange}, {1000, 640001, 1200, 30, api.ErrRange}, {1000, 2000, 0, 30, api.ErrRange}, {1000, 2000, 10001, 30, api.ErrRange}, {1000, 2000, 1200, -1, api.ErrRange}, {1000, 2000, 1200, 1001, api.ErrRange}, {math.MinInt, math.MaxInt, 1, 1, api.ErrRange},
		{640000, 640000, 10000, 1000, api.ErrNone}, {149, 2000, 1200, 30, api.ErrNone}, {150, 2000, 1200, 30, api.OK}, {1000, 1559, 1200, 30, api.ErrNone}, {1000, 1560, 1200, 30, api.OK}, {1000, 2000, 1200, 316, api.ErrNone}, {1000, 2000, 1200, 315, api.OK},
	} {
		f, e := stair.Plan(rule(), c.height, c.length, c.width, c.lap)
		if e != c.e || e != api.OK && f != (stair.Flight{}) {
			t.Errorf("Plan %d = %v, %d, want %d", i, f, e, c.e)
		}
	}
	tall := stair.Rule{Rise: in(10000, 10000), Going: in(1, 10000), Pace: in(1, 30000)}
	if f, e := stair.Plan(tall, 640000, 640000, 1, 0); f != (stair.Flight{Rises: 64, Rise: 10000, Going: 10000, Width: 1}) || e != api.OK {
		t.Errorf("Plan = %v, %d", f, e)
	}
}

// P42.4, P1
func TestMeasures(t *testing.T) {
	for i, c := range []struct {
		levels []int
		want   int
		e      api.Errno
	}{
		{make([]int, 65), 0, api.ErrTooMany}, {make([]int, 64), 0, api.ErrInvalid}, {[]int{0, 5}, 0, api.ErrInvalid}, {[]int{5, 5}, 0, api.ErrInvalid}, {[]int{5, 4}, 0, api.ErrInvalid}, {[]int{5, 1000001}, 0, api.ErrInvalid}, {[]int{-5}, 0, api.ErrInvalid}, {[]int{math.MinInt, math.MaxInt}, 0, api.ErrInvalid},
		{[]int{1000000}, 0, api.ErrNone}, {nil, 0, api.ErrNone}, {[]int{5, 10}, 0, api.OK}, {[]int{5, 11}, 1, api.OK}, {[]int{6, 11}, 1, api.OK}, {[]int{1, 1000000}, 999998, api.OK}, {[]int{10, 21, 34, 40}, 7, api.OK},
	} {
		if n, e := stair.Even(c.levels); n != c.want || e != c.e {
			t.Errorf("Even %d = %d, %d", i, n, e)
		}
	}
	for i, c := range [][5]int{{0, 0, 1, 0, 1}, {10001, 0, 1, 0, 1}, {1, -1, 1, 0, 1}, {1, 1001, 1, 0, 1}, {1, 0, 0, 0, 1}, {1, 0, 10001, 0, 1}, {1, 0, 1, -1, 1}, {1, 0, 1, 1001, 1}, {1, 0, 1, 0, 0}, {1, 0, 1, 0, 10001}, {1, math.MaxInt, 1, math.MaxInt, 1}} {
		if v, e := stair.Sill(c[0], c[1], c[2], c[3], c[4]); v != (api.Vec{}) || e != api.ErrRange {
			t.Errorf("Sill %d = %v, %d", i, v, e)
		}
	}
	if v, e := stair.Sill(10000, 1000, 1, 0, 10000); v != (api.Vec{X: 12000, Y: 1, Z: 10000}) || e != api.OK {
		t.Errorf("Sill = %v, %d", v, e)
	}
	low := stair.Flight{Rises: 2, Rise: 5, Extra: 1, Going: 10, Width: 1}
	if i, e := stair.Spread(low, 1000); i != in(-1989, 2011) || e != api.OK {
		t.Errorf("Spread = %v, %d", i, e)
	}
}

// best finds the planned flight by trial of all goings.
func best(r stair.Rule, height, length, width, lap int) (stair.Flight, bool) {
	for rises := 1; rises <= 64; rises++ {
		for going := 60; going >= 1; going-- {
			f := stair.Flight{Rises: rises, Rise: height / rises, Extra: height % rises, Going: going, Width: width, Lap: lap}
			if rises*going <= length && stair.Fits(r, f) == api.OK {
				return f, true
			}
		}
	}
	return stair.Flight{}, false
}

// P42.2, P42.3, P42.5
func TestProperties(t *testing.T) {
	r := rand.New(rand.NewSource(1))
	interval := func(n int) api.Interval {
		lo := 1 + r.Intn(n)
		return in(lo, lo+r.Intn(n))
	}
	for range 2000 {
		x := stair.Rule{Rise: interval(12), Going: interval(20), Pace: interval(40)}
		height, length, lap := 1+r.Intn(200), 1+r.Intn(400), r.Intn(3)
		want, found := best(x, height, length, 7, lap)
		f, e := stair.Plan(x, height, length, 7, lap)
		if f != want || found != (e == api.OK) || !found && e != api.ErrNone {
			t.Fatalf("Plan(%v, %d, %d, 7, %d) = %v, %d, want %v", x, height, length, lap, f, e, want)
		}
		if !found {
			continue
		}
		stones, _ := stair.Stones(f)
		var levels []int
		for i, s := range stones {
			level, _ := stair.Level(f, i)
			levels = append(levels, level)
			if s.Max.Z != level {
				t.Fatalf("%v: %v", f, stones)
			}
			if i == 0 {
				continue
			}
			touch, e := box.Touch(stones[i-1], s)
			if isOn := e == api.OK && touch == api.PlusZ; isOn != (lap > 0) {
				t.Fatalf("%v: %v", f, stones)
			}
		}
		if _, _, e := box.Clash(stones); e != api.ErrNone || levels[len(levels)-1] != height || !slices.IsSorted(levels) {
			t.Fatalf("%v: %v, %v", f, stones, levels)
		}
		if n, e := stair.Even(levels); e == api.OK && n > 1 {
			t.Fatalf("Even(%v) = %d", levels, n)
		}
	}
}
