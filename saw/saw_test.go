package saw_test

import (
	"math"
	"math/rand"
	"slices"
	"strings"
	"testing"

	"gangsaw/api"
	"gangsaw/saw"
)

const top = api.MaxCoord

func v(x, y, z int) api.Vec { return api.Vec{X: x, Y: y, Z: z} }

func sized(x, y, z int) api.Box { return api.Box{Max: v(x, y, z)} }

func frame() api.Saw {
	return api.Saw{Name: "f", Kind: api.FrameSaw, Most: v(300, 200, 200), Depth: 150, Kerf: 5, Speed: 1000}
}

func disc() api.Saw {
	return api.Saw{Name: "d", Kind: api.DiscSaw, Most: v(300, 300, 300), Depth: 100, Kerf: 5, Speed: 4000}
}

func wire() api.Saw {
	return api.Saw{Name: "w", Kind: api.WireSaw, Most: v(400, 200, 300), Depth: 200, Kerf: 10, Speed: 500}
}

func cut(axis, at, kerf, left, right int) api.Node {
	return api.Node{Kind: api.Cut, Axis: axis, At: at, Kerf: kerf, Left: left, Right: right}
}

// P29.1, P29.2: the examples, and cuts at the limits.
func TestCan(t *testing.T) {
	for i, c := range []struct {
		s    api.Saw
		b    api.Box
		axis int
		kerf int
		want api.Errno
	}{
		{frame(), sized(200, 150, 100), 0, 5, api.OK},
		{disc(), sized(200, 150, 100), 0, 5, api.ErrOutside},
		{disc(), sized(200, 150, 100), 1, 5, api.OK},
		{disc(), sized(200, 150, 100), 2, 5, api.ErrOutside},
		{frame(), sized(250, 250, 100), 0, 5, api.ErrRange},
		{frame(), sized(100, 200, 300), 0, 5, api.ErrOutside},
		{frame(), sized(100, 200, 300), 1, 5, api.OK},
		{frame(), sized(201, 200, 201), 1, 5, api.ErrRange},
		{frame(), sized(200, 300, 200), 0, 5, api.ErrOutside},
		{frame(), sized(200, 300, 151), 0, 5, api.ErrOutside},
		{frame(), sized(200, 300, 150), 0, 5, api.OK},
		{frame(), sized(301, 1, 1), 0, 5, api.ErrRange},
		{frame(), sized(1, 1, 300), 0, 5, api.OK},
		{frame(), sized(1000, 1, 1), 0, 4, api.ErrConflict},
		{frame(), sized(1, 1, 1), 0, 6, api.ErrConflict},
		{disc(), sized(100, 100, 100), 0, 5, api.OK},
		{disc(), sized(101, 100, 100), 0, 5, api.ErrOutside},
		{disc(), sized(101, 101, 100), 0, 5, api.ErrOutside},
		{disc(), sized(101, 101, 100), 1, 5, api.ErrOutside},
		{disc(), sized(101, 101, 100), 2, 5, api.ErrOutside},
		{disc(), sized(101, 100, 100), 1, 5, api.OK},
		{disc(), sized(300, 300, 1), 2, 5, api.ErrOutside},
		{disc(), sized(300, 299, 1), 1, 5, api.OK},
		{disc(), sized(301, 299, 1), 1, 5, api.ErrRange},
		{wire(), sized(400, 200, 300), 0, 10, api.OK},
		{wire(), sized(400, 200, 300), 1, 10, api.ErrOutside},
		{wire(), api.Box{Min: v(-top, -top, -top), Max: v(399-top, 200-top, 1-top)}, 0, 10, api.OK},
		{wire(), api.Box{Min: v(-top, 0, 0), Max: v(top, 1, 1)}, 0, 10, api.ErrRange},
	} {
		if got := saw.Can(c.s, c.b, c.axis, c.kerf); got != c.want {
			t.Errorf("Can %d = %d, want %d", i, got, c.want)
		}
	}
}

// P29.2
func TestChoose(t *testing.T) {
	second := frame()
	second.Name = "g"
	slow := wire()
	slow.Kerf, slow.Speed = 5, 999
	list := []api.Saw{disc(), frame(), second, slow}
	for i, c := range []struct {
		b          api.Box
		axis, want int
		e          api.Errno
	}{
		{sized(200, 150, 100), 0, 1, api.OK},
		{sized(200, 150, 100), 1, 0, api.OK},
		{sized(200, 150, 100), 2, 1, api.OK},
		{sized(400, 200, 300), 0, 3, api.OK},
		{sized(401, 200, 300), 0, 0, api.ErrNone},
		{sized(10, 10, 10), 0, 0, api.OK},
	} {
		if got, e := saw.Choose(list, c.b, c.axis, 5); got != c.want || e != c.e {
			t.Errorf("Choose %d = %d, %d", i, got, e)
		}
	}
	if got, e := saw.Choose(list, sized(10, 10, 10), 0, 6); got != 0 || e != api.ErrNone {
		t.Errorf("Choose = %d, %d", got, e)
	}
	if got, e := saw.Choose(nil, sized(10, 10, 10), 0, 5); got != 0 || e != api.ErrNone {
		t.Errorf("Choose = %d, %d", got, e)
	}
	for area, want := range map[int64]int{1: 1, 999: 1, 1000: 1, 1001: 2, 15000: 15, 4000000000000: 4000000000} {
		if got, e := saw.Minutes(frame(), area); got != want || e != api.OK {
			t.Errorf("Minutes(%d) = %d, %d", area, got, e)
		}
	}
	whole := api.Box{Min: v(-top, -top, -top), Max: v(top, top, top-1)}
	for axis, want := range []int64{2000000 * 1999999, 2000000 * 1999999, 4000000000000} {
		if got, e := saw.Area(whole, axis); got != want || e != api.OK {
			t.Errorf("Area(%d) = %d, %d", axis, got, e)
		}
	}
	if got, _ := saw.Area(sized(2, 3, 5), 1); got != 10 {
		t.Errorf("Area = %d", got)
	}
}

// P29.3
func TestWorks(t *testing.T) {
	list := []api.Saw{disc(), frame()}
	size := v(200, 150, 100)
	plan := []api.Node{cut(0, 100, 5, 1, 2), {}, {}}
	works, e := saw.Works(list, size, plan)
	if !slices.Equal(works, []saw.Work{{0, 1, 15}}) || e != api.OK {
		t.Errorf("Works = %v, %d", works, e)
	}
	total, e := saw.Total(list, size, plan)
	span, f := saw.Span(list, size, plan)
	if total != 15 || span != 15 || e != api.OK || f != api.OK {
		t.Errorf("Total, Span = %d, %d, %d, %d", total, span, e, f)
	}
	// Both parts are cut; the boxes are in the frame of the piece, and the nodes of Left stand last.
	plan = []api.Node{cut(0, 100, 5, 2, 1), cut(1, 70, 5, 3, 4), cut(2, 40, 5, 5, 6), {}, {}, {}, {Kind: api.Product, Name: "p"}}
	works, e = saw.Works(list, size, plan)
	if !slices.Equal(works, []saw.Work{{0, 1, 15}, {1, 1, 10}, {2, 0, 4}}) || e != api.OK {
		t.Errorf("Works = %v, %d", works, e)
	}
	total, _ = saw.Total(list, size, plan)
	span, _ = saw.Span(list, size, plan)
	if total != 29 || span != 25 {
		t.Errorf("Total, Span = %d, %d", total, span)
	}
	// A leaf needs no saw.
	works, e = saw.Works(nil, size, make([]api.Node, 1))
	total, f = saw.Total(nil, size, make([]api.Node, 1))
	span, g := saw.Span(nil, size, make([]api.Node, 1))
	if len(works)+total+span != 0 || e != api.OK || f != api.OK || g != api.OK {
		t.Errorf("%v, %d, %d, %d, %d, %d", works, total, span, e, f, g)
	}
}

type refusal struct {
	list []api.Saw
	e    api.Errno
}

func refusals() []refusal {
	with := func(change func(s []api.Saw)) []api.Saw {
		list := []api.Saw{disc(), frame(), wire()}
		change(list)
		return list
	}
	list := []refusal{
		{make([]api.Saw, saw.MaxSaws+1), api.ErrTooMany},
		{with(func(s []api.Saw) { s[2].Name, s[0].Kind = "W", 9 }), api.ErrName},
		{with(func(s []api.Saw) { s[1].Name, s[0].Kind = strings.Repeat("e", 25), 9 }), api.ErrName},
		{with(func(s []api.Saw) { s[2].Kind, s[0].Depth = 0, 0 }), api.ErrUnknown},
		{with(func(s []api.Saw) { s[2].Kind, s[0].Depth = 4, 0 }), api.ErrUnknown},
		{with(func(s []api.Saw) { s[2].Kind, s[0].Depth = -1, 0 }), api.ErrUnknown},
		{with(func(s []api.Saw) { s[1].Name = "d" }), api.ErrDuplicate},
		{with(func(s []api.Saw) { s[1].Name = "x" }), api.ErrDuplicate},
	}
	for _, n := range []int{0, -1, top + 1, math.MaxInt, math.MinInt} {
		for i := range 4 {
			list = append(list, refusal{with(func(s []api.Saw) {
				*[]*int{&s[2].Most.X, &s[2].Most.Y, &s[2].Most.Z, &s[2].Depth}[i] = n
				s[0].Name = "f"
			}), api.ErrRange})
		}
	}
	for _, n := range []int{-1, 1001, math.MaxInt} {
		list = append(list, refusal{with(func(s []api.Saw) { s[0].Kerf, s[0].Name = n, "f" }), api.ErrRange})
	}
	for _, n := range []int64{0, -1, saw.MaxSpeed + 1, math.MaxInt64} {
		list = append(list, refusal{with(func(s []api.Saw) { s[2].Speed, s[0].Name = n, "f" }), api.ErrRange})
	}
	return list
}

// P29.1, P1: each error, and which one comes first.
func TestErrors(t *testing.T) {
	if e := saw.Check([]api.Saw{disc(), frame(), wire()}); e != api.OK {
		t.Errorf("Check = %d", e)
	}
	if e := saw.Check([]api.Saw{{Name: "a", Kind: 1, Most: v(1, top, 1), Depth: top, Speed: 1}, {Name: "b", Kind: 3, Most: v(top, 1, top), Depth: 1, Kerf: 1000, Speed: saw.MaxSpeed}}); e != api.OK {
		t.Errorf("Check = %d", e)
	}
	for i, c := range refusals() {
		_, e1 := saw.Choose(c.list, api.Box{}, 9, -1)
		_, e2 := saw.Works(c.list, v(0, 0, 0), nil)
		_, e3 := saw.Total(c.list, v(0, 0, 0), nil)
		_, e4 := saw.Span(c.list, v(0, 0, 0), nil)
		for k, e := range []api.Errno{saw.Check(c.list), e1, e2, e3, e4} {
			if e != c.e {
				t.Errorf("refusal %d, function %d: %d, want %d", i, k, e, c.e)
			}
		}
		if c.e == api.ErrTooMany || c.e == api.ErrDuplicate {
			continue
		}
		isBad := func(s api.Saw) bool { return saw.Can(s, api.Box{}, 9, -1) != api.ErrInvalid }
		k := slices.IndexFunc(c.list, isBad)
		for _, s := range c.list[k:] {
			if e := saw.Can(s, api.Box{}, 9, -1); e == c.e {
				k = -1
			}
			if _, e := saw.Minutes(s, 0); e != saw.Can(s, api.Box{}, 9, -1) {
				t.Errorf("Minutes of refusal %d: %d", i, e)
			}
		}
		if k >= 0 {
			t.Errorf("Can accepts the saws of refusal %d", i)
		}
	}
	for _, area := range []int64{0, -1, 4000000000001, math.MaxInt64, math.MinInt64} {
		if n, e := saw.Minutes(frame(), area); n != 0 || e != api.ErrInvalid {
			t.Errorf("Minutes(%d) = %d, %d", area, n, e)
		}
	}
	list := []api.Saw{frame()}
	if _, e := saw.Works(list, v(0, 1, 1), make([]api.Node, 1)); e != api.ErrInvalid {
		t.Errorf("Works = %d", e)
	}
	if _, e := saw.Total(list, v(9, 9, 9), []api.Node{cut(0, 4, 5, 1, 2), {}, {}}); e != api.ErrOutside {
		t.Errorf("Total = %d", e)
	}
	plan := []api.Node{cut(0, 4, 4, 1, 2), {}, {}}
	works, e1 := saw.Works(list, v(9, 9, 9), plan)
	total, e2 := saw.Total(list, v(9, 9, 9), plan)
	span, e3 := saw.Span(list, v(9, 9, 9), plan)
	if len(works)+total+span != 0 || e1 != api.ErrNone || e2 != api.ErrNone || e3 != api.ErrNone {
		t.Errorf("%v, %d, %d, %d, %d, %d", works, total, span, e1, e2, e3)
	}
}

// P29.1, P29.2: what is no box, axis or kerf.
func TestInvalid(t *testing.T) {
	boxes := []api.Box{{}, sized(0, 1, 1), sized(1, 0, 1), sized(1, 1, 0), sized(-1, 1, 1), sized(top+1, 1, 1), sized(1, top+1, 1), sized(1, 1, top+1)}
	for _, b := range []api.Vec{v(-top-1, 0, 0), v(0, -top-1, 0), v(0, 0, math.MinInt)} {
		boxes = append(boxes, api.Box{Min: b, Max: v(1, 1, 1)})
	}
	check := func(b api.Box, axis, kerf int) {
		_, e1 := saw.Area(b, axis)
		_, e2 := saw.Choose([]api.Saw{frame()}, b, axis, kerf)
		e3 := saw.Can(frame(), b, axis, kerf)
		if kerf == 5 && e1 != api.ErrInvalid || e2 != api.ErrInvalid || e3 != api.ErrInvalid {
			t.Errorf("%v, %d, %d: %d, %d, %d", b, axis, kerf, e1, e2, e3)
		}
	}
	for _, b := range boxes {
		check(b, 0, 5)
	}
	for _, n := range []int{-1, 3, math.MaxInt, math.MinInt} {
		check(sized(1, 1, 1), n, 5)
	}
	for _, n := range []int{-1, 1001, math.MaxInt, math.MinInt} {
		check(sized(1, 1, 1), 0, n)
	}
}

// P29.4
func TestProperties(t *testing.T) {
	r := rand.New(rand.NewSource(1))
	kinds := []int{api.FrameSaw, api.WireSaw, api.DiscSaw}
	random := func(name string) api.Saw {
		return api.Saw{Name: name, Kind: kinds[r.Intn(3)], Most: v(1+r.Intn(40), 1+r.Intn(40), 1+r.Intn(40)), Depth: 1 + r.Intn(30), Kerf: 1, Speed: int64(1 + r.Intn(20))}
	}
	for range 3000 {
		list := []api.Saw{random("a"), random("b"), random("c")}
		size := v(4+r.Intn(20), 4+r.Intn(20), 4+r.Intn(20))
		plan := []api.Node{cut(0, 1+r.Intn(size.X-2), 1, 1, 2), {}, cut(1, 1+r.Intn(size.Y-2), 1, 3, 4), cut(2, 1+r.Intn(size.Z-2), 1, 5, 6), {}, {}, {}}
		works, e := saw.Works(list, size, plan)
		total, _ := saw.Total(list, size, plan)
		span, _ := saw.Span(list, size, plan)
		if e == api.OK {
			sum, most := 0, 0
			for _, w := range works {
				sum, most = sum+w.Minutes, max(most, w.Minutes)
			}
			if len(works) != 3 || sum != total || span > total || span < most || span != sum {
				t.Fatalf("%v: %d, %d", works, total, span)
			}
		}
		more, f := saw.Total(append(slices.Clone(list), random("d")), size, plan)
		if e == api.OK && (f != api.OK || more > total) {
			t.Fatalf("one more saw: %d instead of %d", more, total)
		}
		s := list[0]
		lesser := v(1+r.Intn(size.X), 1+r.Intn(size.Y), 1+r.Intn(size.Z))
		if s.Kind != api.DiscSaw && saw.Can(s, api.Box{Max: size}, 0, 1) == api.OK && saw.Can(s, api.Box{Max: lesser}, 0, 1) != api.OK {
			t.Fatalf("%v can cut %v, but not %v", s, size, lesser)
		}
		faster := s
		faster.Speed += int64(r.Intn(9))
		a := int64(1 + r.Intn(1000))
		slow, _ := saw.Minutes(s, a)
		if fast, _ := saw.Minutes(faster, a); fast > slow {
			t.Fatalf("the faster saw needs %d instead of %d", fast, slow)
		}
	}
}
