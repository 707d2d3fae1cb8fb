package drying_test

import (
	"math"
	"math/rand"
	"slices"
	"strconv"
	"strings"
	"testing"

	"gangsaw/api"
	"gangsaw/drying"
)

// rule and batches are those of the chapter's examples.
func rule() drying.Rule {
	return drying.Rule{Thickness: []int{20, 50, 100}, Minutes: []int{60, 120, 400}}
}

func batches() []drying.Batch { return []drying.Batch{{"a", 0, 20}, {"b", 10, 50}, {"c", 20, 20}} }

// P51.1 to P51.3: the examples.
func TestExamples(t *testing.T) {
	for thickness, want := range map[int]int{1: 60, 20: 60, 30: 80, 31: 82, 49: 118, 50: 120, 51: 126, 75: 260, 99: 395, 100: 400, 101: 400, 200: 400, 1000000: 400} {
		if n, e := drying.Time(rule(), thickness); n != want || e != api.OK {
			t.Errorf("Time(%d) = %d, %d", thickness, n, e)
		}
	}
	for minutes, want := range map[int]int{60: 20, 61: 20, 62: 21, 100: 40, 120: 50, 125: 50, 126: 51, 399: 99, 400: 1000000, 1000000000: 1000000} {
		if n, e := drying.Thickest(rule(), minutes); n != want || e != api.OK {
			t.Errorf("Thickest(%d) = %d, %d", minutes, n, e)
		}
	}
	for _, minutes := range []int{0, 59} {
		if n, e := drying.Thickest(rule(), minutes); n != 0 || e != api.ErrNone {
			t.Errorf("Thickest(%d) = %d, %d", minutes, n, e)
		}
	}
	stays, e := drying.Rack(rule(), 2, batches())
	if !slices.Equal(stays, []drying.Stay{{"a", 0, 0, 60}, {"b", 1, 10, 130}, {"c", 0, 60, 120}}) || e != api.OK {
		t.Errorf("Rack = %v, %d", stays, e)
	}
	ready, e := drying.Ready(rule(), 2, batches())
	bound, f := drying.Bound(rule(), 2, batches())
	if ready != 130 || bound != 130 || e != api.OK || f != api.OK {
		t.Errorf("Ready, Bound = %d, %d, %d, %d", ready, bound, e, f)
	}
}

// P51.1 to P51.3: rounding up, sizes, orders and bounds.
func TestEdges(t *testing.T) {
	r := drying.Rule{Thickness: []int{10, 17}, Minutes: []int{5, 8}}
	for thickness, want := range map[int]int{10: 5, 11: 6, 12: 6, 13: 7, 14: 7, 15: 8, 16: 8, 17: 8} {
		if n, _ := drying.Time(r, thickness); n != want {
			t.Errorf("Time(%d) = %d", thickness, n)
		}
	}
	for _, s := range []api.Vec{{X: 5, Y: 7, Z: 9}, {X: 7, Y: 5, Z: 9}, {X: 9, Y: 7, Z: 5}} {
		if n := drying.Size(api.Stone{Size: s}); n != 5 {
			t.Errorf("Size(%v) = %d", s, n)
		}
	}
	if n := drying.Size(api.Stone{Size: api.Vec{X: math.MinInt}}); n != math.MinInt {
		t.Errorf("Size = %d", n)
	}
	// The batches are put in by their arrival, then by their index.
	list := []drying.Batch{{"d", 30, 20}, {"c", 5, 20}, {"b", 5, 20}, {"a", 30, 20}}
	stays, _ := drying.Rack(rule(), 3, list)
	if !slices.Equal(stays, []drying.Stay{{"c", 0, 5, 65}, {"b", 1, 5, 65}, {"d", 2, 30, 90}, {"a", 0, 65, 125}}) {
		t.Errorf("Rack = %v", stays)
	}
	// What arrives late, or needs much, determines the bound.
	for i, c := range []struct {
		places int
		list   []drying.Batch
		want   int
	}{
		{2, nil, 0}, {1, batches(), 240}, {2, list, 5 + 120}, {1, []drying.Batch{{"a", 0, 20}, {"b", 1000, 20}, {"c", 1001, 50}}, 1180}, {7, []drying.Batch{{"a", 900, 20}}, 960}, {2, []drying.Batch{{"a", 10, 20}, {"b", 10, 30}, {"c", 10, 31}}, 10 + 111},
	} {
		if n, e := drying.Bound(rule(), c.places, c.list); n != c.want || e != api.OK {
			t.Errorf("Bound %d = %d, %d", i, n, e)
		}
	}
	n, e := drying.Ready(rule(), 1, nil)
	stays, f := drying.Rack(rule(), 1, nil)
	if n != 0 || len(stays) != 0 || e != api.OK || f != api.OK {
		t.Errorf("%d, %v, %d, %d", n, stays, e, f)
	}
}

// P51.1, P1: each error of a rule, and which one comes first.
func TestRuleErrors(t *testing.T) {
	for i, c := range []struct {
		thickness, minutes []int
		e                  api.Errno
	}{
		{nil, nil, api.ErrInvalid}, {make([]int, 17), make([]int, 17), api.ErrInvalid}, {[]int{0, 0}, []int{1}, api.ErrInvalid}, {[]int{0}, nil, api.ErrInvalid},
		{[]int{5, 5, 0}, []int{1, 2, 3}, api.ErrRange}, {[]int{5, 5, 1000001}, []int{1, 2, 3}, api.ErrRange}, {[]int{5, 5}, []int{1, -1}, api.ErrRange}, {[]int{5, 5}, []int{1, 1000001}, api.ErrRange}, {[]int{math.MinInt}, []int{math.MaxInt}, api.ErrRange},
		{[]int{5, 5}, []int{2, 1}, api.ErrDuplicate}, {[]int{5, 4}, []int{2, 1}, api.ErrDuplicate}, {[]int{4, 5}, []int{2, 1}, api.ErrConflict},
	} {
		r := drying.Rule{Thickness: c.thickness, Minutes: c.minutes}
		bad := make([]drying.Batch, 129)
		n1, e1 := drying.Time(r, 0)
		n2, e2 := drying.Thickest(r, -1)
		stays, e3 := drying.Rack(r, 0, bad)
		n4, e4 := drying.Ready(r, 0, bad)
		n5, e5 := drying.Bound(r, 0, bad)
		for k, e := range []api.Errno{drying.Check(r), e1, e2, e3, e4, e5} {
			if e != c.e {
				t.Errorf("refusal %d, function %d: %d, want %d", i, k, e, c.e)
			}
		}
		if n1+n2+n4+n5+len(stays) != 0 || drying.Valid(r, 1, nil, nil) {
			t.Errorf("refusal %d has results", i)
		}
	}
	if e := drying.Check(drying.Rule{Thickness: []int{1, 1000000}, Minutes: []int{0, 1000000}}); e != api.OK {
		t.Errorf("Check = %d", e)
	}
	for _, n := range []int{0, -1, 1000001, math.MaxInt, math.MinInt} {
		if m, e := drying.Time(rule(), n); m != 0 || e != api.ErrRange {
			t.Errorf("Time(%d) = %d, %d", n, m, e)
		}
	}
	for _, n := range []int{-1, 1000000001, math.MaxInt, math.MinInt} {
		if m, e := drying.Thickest(rule(), n); m != 0 || e != api.ErrRange {
			t.Errorf("Thickest(%d) = %d, %d", n, m, e)
		}
	}
}

// P51.2, P51.3, P1: each error of batches.
func TestBatchErrors(t *testing.T) {
	with := func(change func(b []drying.Batch)) []drying.Batch {
		list := batches()
		change(list)
		return list
	}
	for i, c := range []struct {
		places int
		list   []drying.Batch
		e      api.Errno
	}{
		{0, make([]drying.Batch, 129), api.ErrRange}, {1001, nil, api.ErrRange}, {math.MinInt, nil, api.ErrRange}, {1, make([]drying.Batch, 129), api.ErrTooMany}, {1, make([]drying.Batch, 128), api.ErrName},
		{1, with(func(b []drying.Batch) { b[2].Name, b[0].Arrives = "C", -1 }), api.ErrName}, {1, with(func(b []drying.Batch) { b[2].Name = strings.Repeat("c", 25) }), api.ErrName},
		{1, with(func(b []drying.Batch) { b[2].Arrives, b[1].Name = -1, "a" }), api.ErrRange}, {1, with(func(b []drying.Batch) { b[2].Arrives = 1000000001 }), api.ErrRange}, {1, with(func(b []drying.Batch) { b[2].Thickness, b[1].Name = 0, "a" }), api.ErrRange}, {1, with(func(b []drying.Batch) { b[2].Thickness = 1000001 }), api.ErrRange},
		{1, with(func(b []drying.Batch) { b[2].Name = "a" }), api.ErrDuplicate},
	} {
		stays, e1 := drying.Rack(rule(), c.places, c.list)
		n2, e2 := drying.Ready(rule(), c.places, c.list)
		n3, e3 := drying.Bound(rule(), c.places, c.list)
		if e1 != c.e || e2 != c.e || e3 != c.e || stays != nil || n2+n3 != 0 || drying.Valid(rule(), c.places, c.list, make([]drying.Stay, len(c.list))) {
			t.Errorf("refusal %d: %d, %d, %d, want %d", i, e1, e2, e3, c.e)
		}
	}
	if n, e := drying.Ready(rule(), 1000, []drying.Batch{{"a", 1000000000, 1000000}}); n != 1000000400 || e != api.OK {
		t.Errorf("Ready = %d, %d", n, e)
	}
}

// P51.2
func TestValid(t *testing.T) {
	for i, c := range []struct {
		change func(s []drying.Stay) []drying.Stay
		want   bool
	}{
		{func(s []drying.Stay) []drying.Stay { return s }, true}, {func(s []drying.Stay) []drying.Stay { return []drying.Stay{s[2], s[0], s[1]} }, true}, {func(s []drying.Stay) []drying.Stay { return s[:2] }, false}, {func(s []drying.Stay) []drying.Stay { return append(s, s[0]) }, false}, {func(s []drying.Stay) []drying.Stay { s[2] = drying.Stay{"a", 0, 60, 120}; return s }, false}, {func(s []drying.Stay) []drying.Stay { s[2].Name = "d"; return s }, false},
		{func(s []drying.Stay) []drying.Stay { s[1].Place = 2; return s }, false}, {func(s []drying.Stay) []drying.Stay { s[1].Place = -1; return s }, false}, {func(s []drying.Stay) []drying.Stay { s[0].Place, s[1].Place, s[2].Place = 1, 0, 1; return s }, true},
		{func(s []drying.Stay) []drying.Stay { s[1].From, s[1].To = 9, 129; return s }, false}, {func(s []drying.Stay) []drying.Stay { s[1].From, s[1].To = 11, 131; return s }, true}, {func(s []drying.Stay) []drying.Stay { s[1].To = 131; return s }, false}, {func(s []drying.Stay) []drying.Stay { s[1].To = 129; return s }, false},
		{func(s []drying.Stay) []drying.Stay { s[2].From, s[2].To = 59, 119; return s }, false}, {func(s []drying.Stay) []drying.Stay { s[0].From, s[0].To = 1, 61; return s }, false}, {func(s []drying.Stay) []drying.Stay {
			s[2].From, s[2].To = 20, 80
			s[0].From, s[0].To = 80, 140
			return s
		}, true},
		{func(s []drying.Stay) []drying.Stay { s[1].From, s[1].To = math.MaxInt, math.MinInt+119; return s }, false}, {func(s []drying.Stay) []drying.Stay { s[1].From, s[1].To = math.MaxInt-120, math.MaxInt; return s }, true},
	} {
		stays, _ := drying.Rack(rule(), 2, batches())
		if got := drying.Valid(rule(), 2, batches(), c.change(stays)); got != c.want {
			t.Errorf("Valid %d = %v", i, got)
		}
	}
	// A stone that need not dry may not lie in a place while another one does.
	r := drying.Rule{Thickness: []int{10, 11}, Minutes: []int{0, 9}}
	list := []drying.Batch{{"a", 0, 10}, {"b", 0, 11}}
	for from, want := range map[int]bool{0: true, 1: false, 8: false, 9: true} {
		if got := drying.Valid(r, 1, list, []drying.Stay{{"a", 0, from, from}, {"b", 0, 0, 9}}); got != want {
			t.Errorf("Valid from %d: %v", from, got)
		}
	}
	if !drying.Valid(rule(), 1, nil, nil) {
		t.Error("Valid without batches")
	}
}

// P51.1, P51.4
func TestProperties(t *testing.T) {
	r := rand.New(rand.NewSource(1))
	for range 500 {
		x := drying.Rule{}
		thickness, minutes := 0, 0
		for range 1 + r.Intn(4) {
			thickness, minutes = thickness+1+r.Intn(9), minutes+r.Intn(20)
			x.Thickness, x.Minutes = append(x.Thickness, thickness), append(x.Minutes, minutes)
		}
		before := 0
		for n := 1; n < 45; n++ {
			m, e := drying.Time(x, n)
			if e != api.OK || m < before {
				t.Fatalf("Time(%v, %d) = %d, %d", x, n, m, e)
			}
			before = m
			thickest, e := drying.Thickest(x, m)
			if again, _ := drying.Time(x, thickest); e != api.OK || thickest < n || again > m {
				t.Fatalf("Thickest(%v, %d) = %d, %d", x, m, thickest, e)
			}
			if next, e := drying.Time(x, thickest+1); e == api.OK && next <= m {
				t.Fatalf("Thickest(%v, %d) = %d", x, m, thickest)
			}
		}
		checkRack(t, r, x)
	}
}

func checkRack(t *testing.T, r *rand.Rand, x drying.Rule) {
	var list []drying.Batch
	for i := range r.Intn(8) {
		list = append(list, drying.Batch{"b" + strconv.Itoa(i), r.Intn(60), 1 + r.Intn(40)})
	}
	places := 1 + r.Intn(4)
	stays, e := drying.Rack(x, places, list)
	ready, _ := drying.Ready(x, places, list)
	bound, _ := drying.Bound(x, places, list)
	last := 0
	for _, s := range stays {
		last = max(last, s.To)
	}
	if e != api.OK || !drying.Valid(x, places, list, stays) || ready != last || bound > ready {
		t.Fatalf("Rack(%v, %d, %v) = %v, %d; %d, %d", x, places, list, stays, e, ready, bound)
	}
	more, _ := drying.Rack(x, places+1, list)
	for i, s := range stays {
		if more[i].Name != s.Name || more[i].From > s.From {
			t.Fatalf("Rack(%v, %d, %v) = %v, with one more place %v", x, places, list, stays, more)
		}
	}
}
