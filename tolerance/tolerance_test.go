package tolerance_test

import (
	"math"
	"math/rand"
	"reflect"
	"slices"
	"strconv"
	"testing"

	"gangsaw/api"
	"gangsaw/tolerance"
)

func in(lo, hi int) api.Interval { return api.Interval{Lo: lo, Hi: hi} }

func at(list ...int) []tolerance.Fixed {
	var places []tolerance.Fixed
	for i := 0; i+1 < len(list); i += 2 {
		places = append(places, tolerance.Fixed{Index: list[i], At: list[i+1]})
	}
	return places
}

// run has three stones of 300.
func run(tol int, places ...int) tolerance.Run {
	l := in(300-tol, 300+tol)
	return tolerance.Run{Lengths: []api.Interval{l, l, l}, Joint: in(5, 10), Places: at(places...)}
}

// P43.2 to P43.4: the examples.
func TestExamples(t *testing.T) {
	for i, c := range []struct {
		r       tolerance.Run
		closes  bool
		part    int
		lengths []int
	}{
		{run(2, 3, 915), false, 0, []int{302, 302, 302}}, {run(2, 3, 916), false, 0, []int{298, 298, 298}}, {run(1, 3, 915), true, 0, nil}, {run(1, 3, 913), true, 0, nil}, {run(1, 3, 917), true, 0, nil}, {run(1, 3, 912), false, 0, []int{301, 301, 301}}, {run(1, 3, 918), false, 0, []int{299, 299, 299}},
		{run(1, 2, 616, 3, 915), false, 1, []int{301}}, {run(0, 2, 616, 3, 916), true, 0, nil}, {run(0, 2, 609, 3, 909), false, 0, []int{300, 300}}, {run(1, 2, 616, 3, 917), false, 1, []int{299}}, {run(1, 1, 100, 2, 400, 3, 1), false, 0, []int{301}}, {run(1, 1, 307, 2, 100, 3, 1), false, 1, []int{301}},
	} {
		closes, e := tolerance.Closes(c.r)
		if closes != c.closes || e != api.OK {
			t.Errorf("Closes %d = %v, %d", i, closes, e)
		}
		part, lengths, e := tolerance.Failing(c.r)
		if part != c.part || !slices.Equal(lengths, c.lengths) || (e == api.ErrNone) != c.closes || e != api.OK && e != api.ErrNone {
			t.Errorf("Failing %d = %d, %v, %d", i, part, lengths, e)
		}
	}
	joints, e := tolerance.Joints(run(1, 3, 915), []int{300, 300, 300})
	if !slices.Equal(joints, []int{8, 7}) || e != api.OK {
		t.Errorf("Joints = %v, %d", joints, e)
	}
	if n, e := tolerance.Greatest([]int{300, 300, 300}, in(5, 10), at(3, 915)); n != 1 || e != api.OK {
		t.Errorf("Greatest = %d, %d", n, e)
	}
}

// P43.1
func TestSpan(t *testing.T) {
	r := tolerance.Run{Lengths: []api.Interval{in(10, 12), in(20, 20), in(5, 9)}, Joint: in(1, 3), Places: at(2, 36, 3, 43)}
	for i, c := range []struct {
		from, to int
		want     api.Interval
		e        api.Errno
	}{
		{0, 1, in(11, 15), api.OK}, {0, 2, in(32, 38), api.OK}, {0, 3, in(37, 47), api.OK}, {1, 3, in(26, 32), api.OK}, {2, 3, in(5, 9), api.OK}, {1, 2, in(21, 23), api.OK},
		{-1, 2, in(0, 0), api.ErrRange}, {0, 4, in(0, 0), api.ErrRange}, {1, 1, in(0, 0), api.ErrRange}, {2, 1, in(0, 0), api.ErrRange}, {math.MinInt, math.MaxInt, in(0, 0), api.ErrRange},
	} {
		if got, e := tolerance.Span(r, c.from, c.to); got != c.want || e != c.e {
			t.Errorf("Span %d = %v, %d", i, got, e)
		}
	}
}

// P43.1, P1: each error, and which one comes first.
func TestErrors(t *testing.T) {
	with := func(change func(r *tolerance.Run)) tolerance.Run {
		r := run(1, 2, 616, 3, 917)
		change(&r)
		return r
	}
	for i, c := range []struct {
		r tolerance.Run
		e api.Errno
	}{
		{with(func(r *tolerance.Run) { r.Lengths = make([]api.Interval, 513) }), api.ErrTooMany}, {with(func(r *tolerance.Run) { r.Lengths, r.Joint.Lo = nil, -1 }), api.ErrInvalid},
		{with(func(r *tolerance.Run) { r.Lengths[2].Lo, r.Places = 0, nil }), api.ErrRange}, {with(func(r *tolerance.Run) { r.Lengths[2].Hi, r.Places = 298, nil }), api.ErrRange}, {with(func(r *tolerance.Run) { r.Lengths[2].Hi, r.Places = 1000001, nil }), api.ErrRange}, {with(func(r *tolerance.Run) { r.Lengths[0] = in(math.MinInt, math.MaxInt) }), api.ErrRange},
		{with(func(r *tolerance.Run) { r.Joint, r.Places = in(-1, 5), nil }), api.ErrRange}, {with(func(r *tolerance.Run) { r.Joint, r.Places = in(5, 4), nil }), api.ErrRange}, {with(func(r *tolerance.Run) { r.Joint, r.Places = in(5, 1001), nil }), api.ErrRange},
		{with(func(r *tolerance.Run) { r.Places = nil }), api.ErrInvalid}, {with(func(r *tolerance.Run) { r.Places = at(0, -1, 3, 5) }), api.ErrInvalid}, {with(func(r *tolerance.Run) { r.Places = at(2, 5, 2, 5, 3, -1) }), api.ErrInvalid}, {with(func(r *tolerance.Run) { r.Places = at(2, 0) }), api.ErrInvalid}, {with(func(r *tolerance.Run) { r.Places = at(2, 5, 4, 5) }), api.ErrInvalid}, {with(func(r *tolerance.Run) { r.Places = at(3, 5, 2, 5) }), api.ErrInvalid},
		{with(func(r *tolerance.Run) { r.Places[0].At = 0 }), api.ErrRange}, {with(func(r *tolerance.Run) { r.Places[1].At = 1000000001 }), api.ErrRange}, {with(func(r *tolerance.Run) { r.Places[1].At = math.MinInt }), api.ErrRange},
	} {
		span, e1 := tolerance.Span(c.r, 5, 1)
		closes, e2 := tolerance.Closes(c.r)
		part, lengths, e3 := tolerance.Failing(c.r)
		joints, e4 := tolerance.Joints(c.r, nil)
		meets, e5 := tolerance.Meets(c.r, nil, nil)
		for k, e := range []api.Errno{tolerance.Check(c.r), e1, e2, e3, e4, e5} {
			if e != c.e {
				t.Errorf("refusal %d, function %d: %d, want %d", i, k, e, c.e)
			}
		}
		if span != in(0, 0) || closes || part != 0 || lengths != nil || joints != nil || meets {
			t.Errorf("refusal %d has results", i)
		}
	}
	one := tolerance.Run{Lengths: []api.Interval{in(1, 1000000)}, Joint: in(0, 1000), Places: at(1, 1000000000)}
	if e := tolerance.Check(one); e != api.OK {
		t.Errorf("Check = %d", e)
	}
}

// P43.3
func TestJoints(t *testing.T) {
	r := run(5, 2, 616, 3, 918)
	for i, c := range []struct {
		lengths, want []int
		e             api.Errno
	}{
		{[]int{300, 300, 302}, []int{8, 8}, api.OK}, {[]int{300, 301, 302}, []int{8, 7}, api.OK}, {[]int{298, 298, 302}, []int{10, 10}, api.OK}, {[]int{303, 303, 302}, []int{5, 5}, api.OK},
		{[]int{298, 297, 302}, nil, api.ErrConflict}, {[]int{303, 304, 302}, nil, api.ErrConflict}, {[]int{300, 300, 301}, nil, api.ErrConflict}, {[]int{300, 300, 303}, nil, api.ErrConflict},
		{[]int{300, 300}, nil, api.ErrInvalid}, {[]int{300, 300, 300, 300}, nil, api.ErrInvalid}, {[]int{300, 300, 306}, nil, api.ErrRange}, {[]int{294, 300, 301}, nil, api.ErrRange}, {[]int{math.MinInt, math.MaxInt, 300}, nil, api.ErrRange},
	} {
		if got, e := tolerance.Joints(r, c.lengths); !slices.Equal(got, c.want) || e != c.e {
			t.Errorf("Joints %d = %v, %d", i, got, e)
		}
	}
	for i, c := range []struct {
		lengths, joints []int
		want            bool
		e               api.Errno
	}{
		{[]int{300, 300, 302}, []int{8, 8}, true, api.OK}, {[]int{300, 300, 302}, []int{10, 6}, true, api.OK}, {[]int{300, 300, 302}, []int{6, 10}, true, api.OK}, {[]int{300, 300, 302}, []int{4, 12}, false, api.OK}, {[]int{300, 300, 302}, []int{8, 7}, false, api.OK}, {[]int{301, 300, 301}, []int{8, 7}, false, api.OK},
		{[]int{306, 294, 302}, []int{8, 8}, false, api.OK}, {[]int{math.MaxInt, math.MinInt, 302}, []int{8, 8}, false, api.OK}, {[]int{300, 300, 302}, []int{math.MaxInt, math.MinInt}, false, api.OK},
		{[]int{300, 300}, []int{8, 8}, false, api.ErrInvalid}, {[]int{300, 300, 302}, []int{8}, false, api.ErrInvalid}, {[]int{300, 300, 302}, []int{8, 8, 8}, false, api.ErrInvalid},
	} {
		if got, e := tolerance.Meets(r, c.lengths, c.joints); got != c.want || e != c.e {
			t.Errorf("Meets %d = %v, %d", i, got, e)
		}
	}
	one := tolerance.Run{Lengths: []api.Interval{in(5, 7)}, Places: at(1, 6)}
	if got, e := tolerance.Joints(one, []int{6}); len(got) != 0 || e != api.OK {
		t.Errorf("Joints = %v, %d", got, e)
	}
	if got, e := tolerance.Meets(one, []int{6}, nil); !got || e != api.OK {
		t.Errorf("Meets = %v, %d", got, e)
	}
}

// P43.4, P1
func TestGreatest(t *testing.T) {
	for i, c := range []struct {
		lengths []int
		joint   api.Interval
		places  []tolerance.Fixed
		want    int
		e       api.Errno
	}{
		{[]int{300, 300}, in(0, 1000), at(2, 1100), 100, api.OK}, {[]int{50, 300}, in(0, 1000), at(2, 850), 49, api.OK}, {[]int{1000000, 1000000}, in(0, 1000), at(2, 2000500), 0, api.OK}, {[]int{1000000, 999950}, in(0, 1000), at(2, 2000450), 0, api.OK}, {[]int{999990, 999990}, in(0, 1000), at(2, 2000480), 10, api.OK},
		{[]int{300, 300}, in(0, 10), at(2, 599), 0, api.ErrNone}, {[]int{300, 300}, in(0, 10), at(2, 611), 0, api.ErrNone}, {[]int{300, 300}, in(0, 10), at(2, 610), 0, api.OK}, {[]int{300}, in(0, 10), at(1, 300), 0, api.OK},
		{make([]int, 513), in(0, 10), nil, 0, api.ErrTooMany}, {nil, in(5, 1), nil, 0, api.ErrInvalid}, {[]int{5, 0}, in(0, 1), nil, 0, api.ErrRange}, {[]int{5, 1000001}, in(0, 1), nil, 0, api.ErrRange}, {[]int{5, math.MinInt}, in(0, 1), nil, 0, api.ErrRange}, {[]int{5}, in(2, 1), nil, 0, api.ErrRange}, {[]int{5}, in(0, 1), nil, 0, api.ErrInvalid}, {[]int{5}, in(0, 1), at(1, 0), 0, api.ErrRange},
	} {
		if n, e := tolerance.Greatest(c.lengths, c.joint, c.places); n != c.want || e != c.e {
			t.Errorf("Greatest %d = %d, %d", i, n, e)
		}
	}
}

// P43.5, P1
func TestOf(t *testing.T) {
	s := func(name string, course, x, length, tol int) api.Stone {
		return api.Stone{Name: name, Course: course, At: api.Vec{X: x, Z: 30 * course}, Size: api.Vec{X: length, Z: 20}, Tol: tol}
	}
	w := api.Wall{Name: "w", Length: 100, Joint: in(10, 10), Stones: []api.Stone{s("a", 0, 40, 60, 3), s("b", 0, 0, 30, 0), s("c", 1, 0, 100, 100)}}
	r, e := tolerance.Of(w, 0)
	if want := (tolerance.Run{Lengths: []api.Interval{in(30, 30), in(57, 63)}, Joint: in(10, 10), Places: at(2, 100)}); !reflect.DeepEqual(r, want) || e != api.OK {
		t.Errorf("Of = %v, %d", r, e)
	}
	for _, c := range []struct {
		course int
		e      api.Errno
	}{{1, api.ErrRange}, {2, api.ErrNone}, {-1, api.ErrNone}, {math.MaxInt, api.ErrNone}} {
		if r, e := tolerance.Of(w, c.course); !reflect.DeepEqual(r, tolerance.Run{}) || e != c.e {
			t.Errorf("Of %d = %v, %d", c.course, r, e)
		}
	}
	w.Stones[2].Tol = 99
	if r, e := tolerance.Of(w, 1); r.Lengths[0] != in(1, 199) || e != api.OK {
		t.Errorf("Of = %v, %d", r, e)
	}
	w.Length = 101
	if _, e := tolerance.Of(w, 9); e != api.ErrConflict {
		t.Errorf("Of = %d", e)
	}
}

// choices visits all lists of numbers within intervals.
func choices(list []api.Interval, visit func(numbers []int)) {
	var try func(numbers []int)
	try = func(numbers []int) {
		if len(numbers) == len(list) {
			visit(numbers)
			return
		}
		for n := list[len(numbers)].Lo; n <= list[len(numbers)].Hi; n++ {
			try(append(slices.Clone(numbers), n))
		}
	}
	try(nil)
}

// P43.2, P43.3, P43.6: by trial of all lengths and widths.
func TestByTrial(t *testing.T) {
	r := rand.New(rand.NewSource(1))
	closed := 0
	for range 1500 {
		x := tolerance.Run{Joint: in(r.Intn(3), 3+r.Intn(3))}
		n := 1 + r.Intn(3)
		at := 0
		for i := range n {
			lo := 1 + r.Intn(9)
			x.Lengths = append(x.Lengths, in(lo, lo+r.Intn(3)))
			at += lo + r.Intn(3) + x.Joint.Lo + r.Intn(3)
			if i == n-1 {
				at -= x.Joint.Lo
			}
			if i == n-1 || r.Intn(3) == 0 {
				x.Places = append(x.Places, tolerance.Fixed{Index: i + 1, At: max(at, 1)})
			}
		}
		var widths []api.Interval
		for range n - 1 {
			widths = append(widths, x.Joint)
		}
		closes := true
		choices(x.Lengths, func(lengths []int) {
			found := false
			choices(widths, func(joints []int) {
				meets, e := tolerance.Meets(x, lengths, joints)
				if e != api.OK {
					t.Fatal(e)
				}
				found = found || meets
			})
			closes = closes && found
			checkJoints(t, x, lengths, found)
		})
		if got, e := tolerance.Closes(x); got != closes || e != api.OK {
			t.Fatalf("Closes(%v) = %v, %d", x, got, e)
		}
		checkFailing(t, x, closes)
		if closes {
			closed++
		}
	}
	if closed < 100 {
		t.Errorf("only %d runs close", closed)
	}
}

func checkJoints(t *testing.T, x tolerance.Run, lengths []int, found bool) {
	joints, e := tolerance.Joints(x, lengths)
	if found != (e == api.OK) || !found && (joints != nil || e != api.ErrConflict) {
		t.Fatalf("Joints(%v, %v) = %v, %d", x, lengths, joints, e)
	}
	if !found {
		return
	}
	if meets, e := tolerance.Meets(x, lengths, joints); !meets || e != api.OK {
		t.Fatalf("Joints(%v, %v) = %v", x, lengths, joints)
	}
	from := 0
	for _, p := range x.Places {
		part := joints[from:min(p.Index, len(joints))]
		from = min(p.Index, len(joints))
		if len(part) > 0 && (part[0]-part[len(part)-1] > 1 || !slices.IsSortedFunc(part, func(a, b int) int { return b - a })) {
			t.Fatalf("Joints(%v, %v) = %v", x, lengths, joints)
		}
	}
}

func checkFailing(t *testing.T, x tolerance.Run, closes bool) {
	part, lengths, e := tolerance.Failing(x)
	if closes {
		if e != api.ErrNone {
			t.Fatalf("Failing(%v) = %d, %v, %d", x, part, lengths, e)
		}
		return
	}
	from, before := 0, 0
	for i, p := range x.Places {
		isolated := tolerance.Run{Lengths: x.Lengths[from:p.Index], Joint: x.Joint, Places: []tolerance.Fixed{{Index: p.Index - from, At: p.At - before}}}
		if p.Index < len(x.Lengths) { // the joint in front of the next stone belongs to the part
			isolated.Lengths = append(slices.Clone(isolated.Lengths), in(1, 1))
			isolated.Places[0] = tolerance.Fixed{Index: p.Index - from + 1, At: p.At - before + 1}
		}
		ok, f := tolerance.Closes(isolated)
		fails := f != api.OK || !ok // a room below 1 is no place of a run
		if fails != (i == part) && i <= part || e != api.OK || i == part && len(lengths) != p.Index-from {
			t.Fatalf("Failing(%v) = %d, %v, %d at %s", x, part, lengths, e, strconv.Itoa(i))
		}
		from, before = p.Index, p.At
	}
}
