package setting_test

import (
	"math"
	"math/rand"
	"reflect"
	"slices"
	"strconv"
	"testing"

	"gangsaw/api"
	"gangsaw/setting"
)

func stone(name string, k, from, to int) api.Stone {
	return api.Stone{Name: name, Course: k, At: api.Vec{X: from, Z: 30 * k}, Size: api.Vec{X: to - from, Z: 20}}
}

// example is the wall of the chapter's examples.
func example() api.Wall {
	return api.Wall{Name: "w", Length: 300, Joint: api.Interval{Lo: 0, Hi: 10}, Stones: []api.Stone{
		stone("a", 0, 0, 100), stone("b", 0, 110, 300), stone("c", 1, 0, 50), stone("d", 1, 60, 200), stone("e", 1, 205, 300),
	}}
}

// floating has a stone over a joint.
func floating() api.Wall {
	return api.Wall{Name: "w", Length: 300, Joint: api.Interval{Lo: 0, Hi: 10}, Stones: []api.Stone{
		stone("a", 2, 0, 300), stone("b", 1, 0, 100), stone("c", 1, 100, 109), stone("d", 1, 110, 300), stone("e", 0, 0, 100), stone("f", 0, 110, 300),
	}}
}

// P47.1 to P47.4: the examples.
func TestExamples(t *testing.T) {
	w := example()
	if got, e := setting.Rests(w); !reflect.DeepEqual(got, [][]int{nil, nil, {0}, {0, 1}, {1}}) || e != api.OK {
		t.Errorf("Rests = %v, %d", got, e)
	}
	for i, c := range []struct {
		set  []string
		want []int
	}{{nil, []int{0, 1}}, {[]string{"a"}, []int{1, 2}}, {[]string{"b", "a"}, []int{2, 3, 4}}, {[]string{"b", "a", "d", "c", "e"}, nil}} {
		if got, e := setting.Ready(w, c.set); !slices.Equal(got, c.want) || e != api.OK {
			t.Errorf("Ready %d = %v, %d", i, got, e)
		}
	}
	if got, e := setting.Order(w); !slices.Equal(got, []int{0, 1, 2, 3, 4}) || e != api.OK {
		t.Errorf("Order = %v, %d", got, e)
	}
	for i, c := range []struct {
		order []string
		want  int
	}{{[]string{"b", "e", "d"}, 2}, {[]string{"b", "e", "a", "d"}, -1}, {nil, -1}, {[]string{"c", "a"}, 0}} {
		if got, e := setting.Valid(w, c.order); got != c.want || e != api.OK {
			t.Errorf("Valid %d = %d, %d", i, got, e)
		}
	}
	if got, e := setting.Levels(w); !slices.Equal(got, []int{0, 0, 1, 1, 1}) || e != api.OK {
		t.Errorf("Levels = %v, %d", got, e)
	}
	for crews, want := range map[int]int{1: 5, 2: 3, 3: 2, 5: 2, 512: 2} {
		if got, e := setting.Crews(w, crews); got != want || e != api.OK {
			t.Errorf("Crews(%d) = %d, %d", crews, got, e)
		}
	}
	if got, e := setting.Needed(w, "d"); !slices.Equal(got, []int{0, 1}) || e != api.OK {
		t.Errorf("Needed = %v, %d", got, e)
	}
	if got, e := setting.Floating(w); len(got) != 0 || e != api.OK {
		t.Errorf("Floating = %v, %d", got, e)
	}
}

// P47.1 to P47.4: stones that float, and numbers against the courses.
func TestFloating(t *testing.T) {
	w := floating()
	if got, e := setting.Floating(w); !slices.Equal(got, []int{2}) || e != api.OK {
		t.Errorf("Floating = %v, %d", got, e)
	}
	if got, _ := setting.Rests(w); !reflect.DeepEqual(got, [][]int{{1, 2, 3}, {4}, nil, {5}, nil, nil}) {
		t.Errorf("Rests = %v", got)
	}
	if got, _ := setting.Levels(w); !slices.Equal(got, []int{2, 1, 0, 1, 0, 0}) {
		t.Errorf("Levels = %v", got)
	}
	if got, _ := setting.Order(w); !slices.Equal(got, []int{2, 4, 1, 5, 3, 0}) {
		t.Errorf("Order = %v", got)
	}
	if got, _ := setting.Needed(w, "a"); !slices.Equal(got, []int{1, 2, 3, 4, 5}) {
		t.Errorf("Needed = %v", got)
	}
	if got, _ := setting.Needed(w, "c"); len(got) != 0 {
		t.Errorf("Needed = %v", got)
	}
	// Two crews: c and e, then b and f, then d, then a.
	if got, _ := setting.Crews(w, 2); got != 4 {
		t.Errorf("Crews = %d", got)
	}
	w.Stones = nil
	order, e := setting.Order(w)
	n, f := setting.Crews(w, 1)
	if len(order) != 0 || n != 0 || e != api.OK || f != api.OK {
		t.Errorf("%v, %d, %d, %d", order, n, e, f)
	}
}

// P1: each error, and which one comes first.
func TestErrors(t *testing.T) {
	w := example()
	w.Length++
	rests, e1 := setting.Rests(w)
	ready, e2 := setting.Ready(w, []string{"x"})
	order, e3 := setting.Order(w)
	position, e4 := setting.Valid(w, []string{"x"})
	levels, e5 := setting.Levels(w)
	needed, e6 := setting.Needed(w, "x")
	floats, e7 := setting.Floating(w)
	rounds, e8 := setting.Crews(w, 0)
	for i, e := range []api.Errno{e1, e2, e3, e4, e5, e6, e7, e8} {
		if e != api.ErrConflict {
			t.Errorf("function %d: %d", i, e)
		}
	}
	if len(rests)+len(ready)+len(order)+position+len(levels)+len(needed)+len(floats)+rounds != 0 {
		t.Error("there are results beside the error")
	}
	w = example()
	for i, c := range []struct {
		list         []string
		ready, valid api.Errno
	}{
		{[]string{"a", "a", "x"}, api.ErrUnknown, api.ErrUnknown}, {[]string{"c", "c"}, api.ErrDuplicate, api.ErrDuplicate}, {[]string{"c"}, api.ErrConflict, api.OK}, {[]string{"c", "a"}, api.OK, api.OK}, {[]string{"a", "d"}, api.ErrConflict, api.OK},
	} {
		got, e := setting.Ready(w, c.list)
		_, f := setting.Valid(w, c.list)
		if e != c.ready || f != c.valid || e != api.OK && got != nil {
			t.Errorf("list %d: %v, %d, %d", i, got, e, f)
		}
	}
	if got, e := setting.Needed(w, "x"); got != nil || e != api.ErrUnknown {
		t.Errorf("Needed = %v, %d", got, e)
	}
	for _, n := range []int{0, -1, 513, math.MaxInt, math.MinInt} {
		if got, e := setting.Crews(w, n); got != 0 || e != api.ErrRange {
			t.Errorf("Crews(%d) = %d, %d", n, got, e)
		}
	}
}

// random is a wall whose stones have names in no order.
func random(r *rand.Rand) api.Wall {
	w := api.Wall{Name: "w", Length: 60, Joint: api.Interval{Lo: 0, Hi: 10}}
	names := r.Perm(40)
	for k := range 1 + r.Intn(4) {
		at := 0
		for at < w.Length {
			end := min(at+2+r.Intn(25), w.Length)
			if w.Length-end < 5 {
				end = w.Length
			}
			w.Stones = append(w.Stones, stone("s"+strconv.Itoa(100+names[len(w.Stones)]), k, at, end))
			at = end
			if at < w.Length {
				at += r.Intn(4)
			}
		}
	}
	slices.SortFunc(w.Stones, func(a, b api.Stone) int {
		if a.Name < b.Name {
			return -1
		}
		return 1
	})
	return w
}

// P47.1 to P47.5
func TestProperties(t *testing.T) {
	r := rand.New(rand.NewSource(1))
	for range 1000 {
		w := random(r)
		rests, e := setting.Rests(w)
		if e != api.OK {
			t.Fatal(e)
		}
		for i, s := range w.Stones {
			for k, u := range w.Stones {
				rest := u.Course == s.Course-1 && max(s.At.X, u.At.X) < min(s.At.X+s.Size.X, u.At.X+u.Size.X)
				if slices.Contains(rests[i], k) != rest {
					t.Fatalf("Rests(%v) = %v", w, rests)
				}
			}
		}
		checkOrder(t, w, rests)
		checkLevels(t, w, rests)
	}
}

func name(w api.Wall, list []int) []string {
	var names []string
	for _, i := range list {
		names = append(names, w.Stones[i].Name)
	}
	return names
}

func checkOrder(t *testing.T, w api.Wall, rests [][]int) {
	order, e := setting.Order(w)
	if position, f := setting.Valid(w, name(w, order)); len(order) != len(w.Stones) || position != -1 || e != api.OK || f != api.OK {
		t.Fatalf("Order(%v) = %v, %d", w, order, e)
	}
	for n := range order {
		ready, e := setting.Ready(w, name(w, order[:n]))
		if e != api.OK || ready[0] != order[n] || !slices.IsSorted(ready) {
			t.Fatalf("Order(%v) = %v, but ready are %v, %d", w, order, ready, e)
		}
	}
	for i, s := range w.Stones {
		needed, _ := setting.Needed(w, s.Name)
		ready, e := setting.Ready(w, name(w, needed))
		if e != api.OK || !slices.Contains(ready, i) || !slices.IsSorted(needed) {
			t.Fatalf("Needed(%v, %q) = %v, %d", w, s.Name, needed, e)
		}
		for _, k := range needed {
			direct := slices.Contains(rests[i], k)
			if !direct && !slices.ContainsFunc(needed, func(n int) bool { return slices.Contains(rests[n], k) }) {
				t.Fatalf("Needed(%v, %q) = %v", w, s.Name, needed)
			}
		}
	}
}

func checkLevels(t *testing.T, w api.Wall, rests [][]int) {
	levels, _ := setting.Levels(w)
	all := make([]int, len(levels))
	for i, l := range levels {
		all[i] = i
		want := 0
		for _, k := range rests[i] {
			want = max(want, levels[k]+1)
		}
		if l != want || l > w.Stones[i].Course {
			t.Fatalf("Levels(%v) = %v", w, levels)
		}
	}
	slices.SortStableFunc(all, func(i, k int) int { return levels[i] - levels[k] })
	if position, _ := setting.Valid(w, name(w, all)); position != -1 {
		t.Fatalf("Levels(%v) = %v: %d", w, levels, position)
	}
	n := len(w.Stones)
	for crews := 1; crews <= n; crews++ {
		rounds, _ := setting.Crews(w, crews)
		if rounds*crews < n || rounds <= slices.Max(levels) || crews == 1 && rounds != n || crews == n && rounds != slices.Max(levels)+1 {
			t.Fatalf("Crews(%v, %d) = %d; the levels are %v", w, crews, rounds, levels)
		}
	}
}
