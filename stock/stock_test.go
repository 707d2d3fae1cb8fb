package stock_test

import (
	"maps"
	"math"
	"math/rand"
	"slices"
	"strconv"
	"strings"
	"testing"

	"gangsaw/api"
	"gangsaw/stock"
)

type entry = stock.Entry
type hold = stock.Hold

func check(t *testing.T, s *stock.Stock, entries []entry, holds []hold) {
	t.Helper()
	if got := s.Entries(); !slices.Equal(got, entries) {
		t.Errorf("Entries = %v, want %v", got, entries)
	}
	if got := s.Holds(); !slices.Equal(got, holds) {
		t.Errorf("Holds = %v, want %v", got, holds)
	}
}

// P37.1 to P37.3: the examples.
func TestExamples(t *testing.T) {
	s := stock.New()
	check(t, s, nil, nil)
	errors := []api.Errno{s.Add("slabs", 10), s.Reserve("a", "slabs", 6), s.Reserve("b", "slabs", 3)}
	if !slices.Equal(errors, make([]api.Errno, 3)) || s.Free("slabs") != 1 || s.Free("tiles") != 0 {
		t.Errorf("%v, %d", errors, s.Free("slabs"))
	}
	if e := s.Reserve("c", "slabs", 2); e != api.ErrConflict {
		t.Errorf("Reserve = %d", e)
	}
	if e := s.Take("a", "slabs", 4); e != api.OK {
		t.Errorf("Take = %d", e)
	}
	check(t, s, []entry{{"slabs", 6, 5}}, []hold{{"a", "slabs", 2}, {"b", "slabs", 3}})
	if n, e := s.Cancel("b"); n != 3 || e != api.OK {
		t.Errorf("Cancel = %d, %d", n, e)
	}
	list, e := s.Replenish([]hold{{"d", "tile", 1}, {"c", "slabs", 5}})
	if !slices.Equal(list, []entry{{"slabs", 1, 0}, {"tile", 1, 0}}) || e != api.OK {
		t.Errorf("Replenish = %v, %d", list, e)
	}
	check(t, s, []entry{{"slabs", 6, 2}}, []hold{{"a", "slabs", 2}})
}

// P37.1: what becomes 0 is none any more.
func TestRules(t *testing.T) {
	s := stock.New()
	for i, e := range []api.Errno{
		s.Add("b", 2), s.Add("a", 5), s.Add("b", 3), s.Reserve("y", "b", 1), s.Reserve("x", "b", 1), s.Reserve("x", "a", 2), s.Reserve("x", "b", 2),
	} {
		if e != api.OK {
			t.Errorf("call %d: %d", i, e)
		}
	}
	check(t, s, []entry{{"a", 5, 2}, {"b", 5, 4}}, []hold{{"x", "a", 2}, {"x", "b", 3}, {"y", "b", 1}})
	if e := s.Release("x", "b", 2); e != api.OK {
		t.Error(e)
	}
	check(t, s, []entry{{"a", 5, 2}, {"b", 5, 2}}, []hold{{"x", "a", 2}, {"x", "b", 1}, {"y", "b", 1}})
	if e := s.Release("x", "b", 1); e != api.OK {
		t.Error(e)
	}
	if e := s.Take("y", "b", 1); e != api.OK {
		t.Error(e)
	}
	check(t, s, []entry{{"a", 5, 2}, {"b", 4, 0}}, []hold{{"x", "a", 2}})
	if e := s.Scrap("b", 4); e != api.OK {
		t.Error(e)
	}
	if e := s.Scrap("a", 3); e != api.OK {
		t.Error(e)
	}
	check(t, s, []entry{{"a", 2, 2}}, []hold{{"x", "a", 2}})
	if e := s.Take("x", "a", 2); e != api.OK {
		t.Error(e)
	}
	check(t, s, nil, nil)
	s.Add("a", 9)
	s.Add("b", 9)
	s.Reserve("x", "a", 9)
	s.Reserve("x", "b", 4)
	s.Reserve("xx", "b", 4)
	if n, e := s.Cancel("x"); n != 13 || e != api.OK {
		t.Errorf("Cancel = %d, %d", n, e)
	}
	check(t, s, []entry{{"a", 9, 0}, {"b", 9, 4}}, []hold{{"xx", "b", 4}})
}

// P37.1, P1: each error, and which one comes first.
func TestErrors(t *testing.T) {
	s := stock.New()
	s.Add("a", 5)
	s.Reserve("x", "a", 3)
	for _, n := range []int{0, -1, stock.MaxCount + 1, math.MaxInt, math.MinInt} {
		for i, e := range []api.Errno{s.Add("a", n), s.Reserve("o", "q", n), s.Release("o", "q", n), s.Take("o", "q", n), s.Scrap("q", n)} {
			if e != api.ErrRange {
				t.Errorf("call %d with %d: %d", i, n, e)
			}
		}
		if list, e := s.Replenish([]hold{{"a", "b", 1}, {"a", "b", n}}); list != nil || e != api.ErrRange {
			t.Errorf("Replenish = %v, %d", list, e)
		}
	}
	for _, name := range []string{"", "A", "a b", strings.Repeat("a", 25)} {
		_, e1 := s.Cancel(name)
		_, e2 := s.Replenish([]hold{{"a", "b", 0}, {"a", name, 1}})
		_, e3 := s.Replenish([]hold{{"a", "b", 0}, {name, "a", 1}})
		for i, e := range []api.Errno{s.Add(name, 0), s.Reserve("o", name, 0), s.Reserve(name, "a", 0), s.Release("o", name, 0), s.Release(name, "a", 0), s.Take("o", name, 0), s.Take(name, "a", 0), s.Scrap(name, 0), e1, e2, e3} {
			if e != api.ErrName {
				t.Errorf("call %d with %q: %d", i, name, e)
			}
		}
		if n := s.Free(name); n != 0 {
			t.Errorf("Free(%q) = %d", name, n)
		}
	}
	_, cancelled := s.Cancel("o")
	for i, c := range []struct{ got, want api.Errno }{
		{s.Reserve("o", "b", 1), api.ErrUnknown}, {s.Scrap("b", 1), api.ErrUnknown}, {s.Reserve("o", "a", 3), api.ErrConflict}, {s.Scrap("a", 3), api.ErrConflict},
		{s.Release("o", "a", 1), api.ErrNone}, {s.Take("o", "a", 1), api.ErrNone}, {s.Release("x", "b", 1), api.ErrNone}, {cancelled, api.ErrNone},
		{s.Release("x", "a", 4), api.ErrConflict}, {s.Take("x", "a", 4), api.ErrConflict},
	} {
		if c.got != c.want {
			t.Errorf("error %d: %d, want %d", i, c.got, c.want)
		}
	}
	if list, e := s.Replenish(make([]hold, stock.MaxHolds+1)); list != nil || e != api.ErrTooMany {
		t.Errorf("Replenish = %v, %d", list, e)
	}
	if list, e := s.Replenish(nil); len(list) != 0 || e != api.OK {
		t.Errorf("Replenish = %v, %d", list, e)
	}
	check(t, s, []entry{{"a", 5, 3}}, []hold{{"x", "a", 3}})
}

// P37.1: the limits.
func TestLimits(t *testing.T) {
	s := stock.New()
	for i := range stock.MaxKinds {
		if e := s.Add("g"+strconv.Itoa(i), 1000000); e != api.OK {
			t.Fatal(e)
		}
	}
	if e := s.Add("more", 1); e != api.ErrTooMany {
		t.Errorf("Add = %d", e)
	}
	for range 999 {
		s.Add("g7", 1000000)
	}
	if e := s.Add("g7", 1); e != api.ErrRange || s.Free("g7") != stock.MaxTotal {
		t.Errorf("Add = %d, %d", e, s.Free("g7"))
	}
	for i := range stock.MaxHolds {
		if e := s.Reserve("o"+strconv.Itoa(i), "g7", 1); e != api.OK {
			t.Fatal(e)
		}
	}
	if e := s.Reserve("more", "g7", 1); e != api.ErrTooMany {
		t.Errorf("Reserve = %d", e)
	}
	if e := s.Reserve("o5", "g7", 1); e != api.OK {
		t.Errorf("Reserve = %d", e)
	}
	s.Reserve("o5", "g8", 1)
	if e := s.Reserve("more", "g8", 1000000); e != api.ErrTooMany {
		t.Errorf("Reserve = %d", e)
	}
	s.Scrap("g8", 1)
	if e := s.Reserve("more", "g8", 1000000); e != api.ErrConflict {
		t.Errorf("Reserve = %d", e)
	}
	if len(s.Holds()) != stock.MaxHolds || len(s.Entries()) != stock.MaxKinds {
		t.Errorf("%d, %d", len(s.Holds()), len(s.Entries()))
	}
}

// P1: inventories that New did not make.
func TestOdd(t *testing.T) {
	var none *stock.Stock
	_, e1 := none.Cancel("a")
	list, e2 := none.Replenish([]hold{{"a", "b", 2}})
	if none.Add("a", 1) != api.ErrState || none.Reserve("a", "b", 1) != api.ErrUnknown || none.Release("a", "b", 1) != api.ErrNone || none.Take("a", "b", 1) != api.ErrNone || none.Scrap("a", 1) != api.ErrUnknown || e1 != api.ErrNone || e2 != api.OK || len(list) != 1 || none.Free("a") != 0 {
		t.Error("a nil inventory")
	}
	check(t, none, nil, nil)
	var s stock.Stock
	if e := s.Reserve("a", "b", 1); e != api.ErrUnknown {
		t.Errorf("Reserve = %d", e)
	}
	s.Add("b", 2)
	if e := s.Reserve("a", "b", 1); e != api.OK || s.Free("b") != 1 {
		t.Errorf("Reserve = %d", e)
	}
}

// P37.3, P37.4: against a simple model.
func TestProperties(t *testing.T) {
	r := rand.New(rand.NewSource(1))
	names := []string{"a", "b", "c"}
	for range 100 {
		s := stock.New()
		count := map[string]int{}
		held := map[[2]string]int{}
		reserved := func(name string) int {
			n := 0
			for k, c := range held {
				if k[1] == name {
					n += c
				}
			}
			return n
		}
		for range 100 {
			order, name, n := names[r.Intn(3)], names[r.Intn(3)], 1+r.Intn(5)
			k := [2]string{order, name}
			var e, want api.Errno
			switch r.Intn(6) {
			case 0:
				e = s.Add(name, n)
				count[name] += n
			case 1:
				e = s.Reserve(order, name, n)
				if count[name] == 0 {
					want = api.ErrUnknown
				} else if count[name]-reserved(name) < n {
					want = api.ErrConflict
				} else {
					held[k] += n
				}
			case 2, 3:
				want = lessen(held, k, n)
				if e = s.Release(order, name, n); e != want {
					t.Fatalf("Release = %d, want %d", e, want)
				}
			case 4:
				want = lessen(held, k, n)
				if e = s.Take(order, name, n); e == api.OK {
					count[name] -= n
				}
			case 5:
				e = s.Scrap(name, n)
				if count[name] == 0 {
					want = api.ErrUnknown
				} else if count[name]-reserved(name) < n {
					want = api.ErrConflict
				} else {
					count[name] -= n
				}
			}
			if e != want {
				t.Fatalf("%d, want %d", e, want)
			}
			checkModel(t, s, count, held, reserved)
		}
		checkReplenish(t, s, r, names)
	}
}

func lessen(held map[[2]string]int, k [2]string, n int) api.Errno {
	switch {
	case held[k] == 0:
		return api.ErrNone
	case held[k] < n:
		return api.ErrConflict
	}
	held[k] -= n
	return api.OK
}

func checkModel(t *testing.T, s *stock.Stock, count map[string]int, held map[[2]string]int, reserved func(string) int) {
	var entries []entry
	for _, name := range slices.Sorted(maps.Keys(count)) {
		if count[name] > 0 {
			entries = append(entries, entry{name, count[name], reserved(name)})
		}
	}
	var holds []hold
	for _, order := range []string{"a", "b", "c"} {
		for _, name := range []string{"a", "b", "c"} {
			if n := held[[2]string{order, name}]; n > 0 {
				holds = append(holds, hold{order, name, n})
			}
		}
	}
	check(t, s, entries, holds)
	if t.Failed() {
		t.FailNow()
	}
}

func checkReplenish(t *testing.T, s *stock.Stock, r *rand.Rand, names []string) {
	var wanted []hold
	for range r.Intn(6) {
		wanted = append(wanted, hold{names[r.Intn(3)], names[r.Intn(3)], 1 + r.Intn(9)})
	}
	list, _ := s.Replenish(wanted)
	for _, x := range list {
		s.Add(x.Name, x.Count)
	}
	for _, w := range wanted {
		if e := s.Reserve(w.Order, w.Name, w.Count); e != api.OK {
			t.Fatalf("Reserve(%v) = %d", w, e)
		}
	}
	for _, x := range list {
		if n := s.Free(x.Name); n != 0 {
			t.Fatalf("%d of %v are too many", n, x)
		}
	}
}
