package boring_test

import (
	"math"
	"math/rand"
	"reflect"
	"slices"
	"strconv"
	"testing"

	"gangsaw/api"
	"gangsaw/boring"
)

const top = api.MaxCoord

func bx(x, y, z, x2, y2, z2 int) api.Box {
	return api.Box{Min: api.Vec{X: x, Y: y, Z: z}, Max: api.Vec{X: x2, Y: y2, Z: z2}}
}

func pit() api.Box { return bx(0, 0, 0, 100, 100, 100) }

func sound(lo, hi int) api.Log  { return api.Log{Lo: lo, Hi: hi, State: api.Sound} }
func flawed(lo, hi int) api.Log { return api.Log{Lo: lo, Hi: hi, State: api.Flawed} }

func at(x, y int, logs ...api.Log) api.Boring {
	return api.Boring{Name: "b1", At: api.Point{X: x, Y: y}, Logs: logs}
}

// usual is the boring of the chapter's examples.
func usual() api.Boring { return at(5, 5, sound(0, 10), sound(10, 20), flawed(25, 30)) }

func same(a, b api.Boring) bool {
	return a.Name == b.Name && a.At == b.At && slices.Equal(a.Logs, b.Logs)
}

func with(change func(b *api.Boring)) api.Boring {
	b := usual()
	change(&b)
	return b
}

// many is a boring with n logs.
func many(n int) api.Boring {
	b := at(1, 1)
	for i := range n {
		b.Logs = append(b.Logs, api.Log{Lo: i, Hi: i + 1, State: 1 + i%2})
	}
	return b
}

type refusal struct {
	b api.Boring
	e api.Errno
}

// common are borings that are valid nowhere, with errors that come before that of their place.
func common() []refusal {
	list := []refusal{
		{with(func(b *api.Boring) { b.Name = "" }), api.ErrName},
		{with(func(b *api.Boring) { b.Name = "B1" }), api.ErrName},
		{with(func(b *api.Boring) { b.Name = "a b"; b.Logs = make([]api.Log, 65) }), api.ErrName},
		{many(65), api.ErrTooMany},
		{at(2*top, 0, make([]api.Log, 65)...), api.ErrTooMany},
		{at(2*top, 0, api.Log{}), api.ErrInvalid},
		{at(2*top, 0, sound(5, 6), sound(0, 2*top), sound(9, 9)), api.ErrInvalid},
		{at(0, 0, sound(5, 4)), api.ErrInvalid},
		{at(0, 0, sound(math.MaxInt, math.MinInt)), api.ErrInvalid},
		{at(0, 0, sound(0, 5), api.Log{Lo: 5, Hi: 6}), api.ErrInvalid},
		{at(0, 0, sound(0, 5), api.Log{Lo: 5, Hi: 6, State: api.Clash}), api.ErrInvalid},
		{at(0, 0, sound(0, 5), api.Log{Lo: 5, Hi: 6, State: -1}), api.ErrInvalid},
	}
	return list
}

// overlapping are borings whose logs are not in order; all lie in the pit.
func overlapping() []refusal {
	return []refusal{
		{at(0, 0, sound(0, 5), sound(4, 6)), api.ErrOverlap},
		{at(0, 0, sound(0, 5), sound(0, 5)), api.ErrOverlap},
		{at(0, 0, sound(5, 9), flawed(0, 5)), api.ErrOverlap},
		{at(0, 0, sound(0, 5), sound(7, 9), sound(6, 7)), api.ErrOverlap},
	}
}

// unformed are borings that lie in no pit.
func unformed() []refusal {
	list := []refusal{
		{at(0, 0, sound(-top-1, 5), sound(4, 6)), api.ErrRange},
		{at(0, 0, sound(0, 5), sound(4, top+1)), api.ErrRange},
		{at(0, 0, sound(math.MinInt, math.MaxInt)), api.ErrRange},
	}
	for _, c := range []int{top, -top - 1, math.MaxInt, math.MinInt} {
		list = append(list, refusal{at(c, 0), api.ErrRange}, refusal{at(0, c), api.ErrRange})
	}
	return list
}

// elsewhere are borings that do not lie in the pit.
func elsewhere() []refusal {
	var list []refusal
	for _, b := range []api.Boring{
		at(100, 0), at(-1, 0), at(0, 100), at(0, -1), at(top, math.MinInt), at(0, 0, sound(-1, 5), sound(4, 6)), at(0, 0, sound(0, 5), sound(4, 101)), at(0, 0, sound(99, 101)), at(0, 0, sound(200, 300)), at(0, 0, sound(math.MinInt, math.MaxInt)),
	} {
		list = append(list, refusal{b, api.ErrOutside})
	}
	return list
}

// P14.1
func TestCheck(t *testing.T) {
	for i, b := range []api.Boring{usual(), at(0, 0), at(99, 99, sound(0, 100)), many(64), at(0, 0, sound(0, 1), sound(1, 2), flawed(2, 3), flawed(99, 100))} {
		if e := boring.Check(b, pit()); e != api.OK {
			t.Errorf("%d: %d", i, e)
		}
		if e := boring.CheckAll([]api.Boring{b}, pit()); e != api.OK {
			t.Errorf("%d: %d", i, e)
		}
	}
	for i, c := range slices.Concat(common(), elsewhere(), overlapping()) {
		other := at(7, 7)
		other.Name = "other"
		for _, e := range []api.Errno{boring.Check(c.b, pit()), boring.CheckAll([]api.Boring{c.b}, pit()), boring.CheckAll([]api.Boring{other, c.b}, pit()), boring.CheckAll([]api.Boring{c.b, other}, pit())} {
			if e != c.e {
				t.Errorf("%d: %d, want %d", i, e, c.e)
			}
		}
		for _, p := range []struct {
			pit api.Box
			e   api.Errno
		}{{api.Box{}, api.ErrInvalid}, {bx(0, 0, 5, 100, 100, 5), api.ErrInvalid}, {bx(0, 0, 0, top+1, 0, 100), api.ErrRange}} {
			if e := boring.Check(c.b, p.pit); e != p.e {
				t.Errorf("%d: %d, want %d", i, e, p.e)
			}
			if e := boring.CheckAll([]api.Boring{c.b}, p.pit); e != p.e {
				t.Errorf("%d: %d, want %d", i, e, p.e)
			}
		}
	}
}

// P14.1: the errors of a list come in their order for all borings.
func TestCheckAll(t *testing.T) {
	named := func(b api.Boring, name string) api.Boring { b.Name = name; return b }
	var list []api.Boring
	for i := range 65 {
		list = append(list, named(usual(), "b"+strconv.Itoa(i)))
	}
	bad, long, wrong := with(func(b *api.Boring) { b.Name = "" }), many(65), at(0, 0, sound(5, 4))
	out, over := at(100, 0), at(0, 0, sound(0, 5), sound(4, 6))
	for i, c := range []struct {
		list []api.Boring
		pit  api.Box
		want api.Errno
	}{
		{nil, pit(), api.OK},
		{list[:64], pit(), api.OK},
		{list, pit(), api.ErrTooMany},
		{make([]api.Boring, 65), api.Box{}, api.ErrTooMany},
		{nil, api.Box{}, api.ErrInvalid},
		{nil, bx(0, 0, 0, 1, 1, top+1), api.ErrRange},
		{[]api.Boring{over, out, wrong, long, bad}, pit(), api.ErrName},
		{[]api.Boring{over, out, wrong, long}, pit(), api.ErrTooMany},
		{[]api.Boring{over, out, wrong}, pit(), api.ErrInvalid},
		{[]api.Boring{over, out}, pit(), api.ErrOutside},
		{[]api.Boring{usual(), usual(), over}, pit(), api.ErrOverlap},
		{[]api.Boring{usual(), usual()}, pit(), api.ErrDuplicate},
		{[]api.Boring{usual(), list[0], list[1], list[0]}, pit(), api.ErrDuplicate},
	} {
		if e := boring.CheckAll(c.list, c.pit); e != c.want {
			t.Errorf("%d: %d, want %d", i, e, c.want)
		}
	}
}

// P14.1
func TestState(t *testing.T) {
	odd := at(0, 0, flawed(9, 5), api.Log{Lo: 0, Hi: 8, State: 7}, sound(4, 20), flawed(0, 30), sound(math.MinInt, math.MaxInt), flawed(math.MaxInt, math.MinInt))
	for i, c := range []struct {
		b       api.Boring
		z, want int
	}{
		{usual(), 0, api.Sound}, {usual(), 9, api.Sound}, {usual(), 10, api.Sound}, {usual(), 19, api.Sound}, {usual(), 20, api.Unseen}, {usual(), 24, api.Unseen}, {usual(), 25, api.Flawed}, {usual(), 29, api.Flawed}, {usual(), 30, api.Unseen}, {usual(), -1, api.Unseen}, {usual(), math.MinInt, api.Unseen}, {usual(), math.MaxInt, api.Unseen}, {api.Boring{}, 0, api.Unseen},
		{odd, 5, 7}, {odd, 8, api.Sound}, {odd, 20, api.Flawed}, {odd, 30, api.Sound}, {odd, -5, api.Sound}, {odd, math.MinInt, api.Sound}, {odd, math.MaxInt, api.Unseen},
	} {
		if got := boring.State(c.b, c.z); got != c.want {
			t.Errorf("%d: State(%d) = %d, want %d", i, c.z, got, c.want)
		}
	}
}

// P14.1
func TestSeen(t *testing.T) {
	odd := api.Boring{Logs: []api.Log{{Lo: -5, Hi: 0, State: 7}, sound(0, 4), sound(4, 6), {Lo: 6, Hi: 7}, sound(7, 9), flawed(9, 10), sound(11, 16), flawed(20, 23)}}
	for i, c := range []struct {
		b                 api.Boring
		state, sum, queue int
	}{
		{usual(), api.Sound, 20, 20}, {usual(), api.Flawed, 5, 5}, {usual(), api.Unseen, 0, 0}, {usual(), api.Clash, 0, 0}, {usual(), -1, 0, 0},
		{api.Boring{}, api.Sound, 0, 0},
		{odd, api.Sound, 13, 6}, {odd, api.Flawed, 4, 3}, {odd, 7, 0, 0}, {odd, api.Unseen, 0, 0},
		{at(0, 0, sound(0, 5), sound(6, 9), sound(9, 11)), api.Sound, 10, 5},
		{at(0, 0, sound(-9, -7), sound(-7, -5), flawed(-5, 5), sound(5, 8)), api.Sound, 7, 4},
		{at(0, 0, sound(0, 5), flawed(4, 6)), api.Sound, 0, 0},
		{at(0, 0, sound(5, 9), flawed(0, 5)), api.Sound, 0, 0},
		{at(0, 0, sound(0, 5), flawed(5, 5)), api.Sound, 0, 0},
		{at(0, 0, sound(0, 5), flawed(9, 7)), api.Sound, 0, 0},
		{many(1000), api.Sound, 500, 1},
		{at(3*top, 0, sound(5*top, 6*top)), api.Sound, top, top},
	} {
		if sum, run := boring.Seen(c.b, c.state); sum != c.sum || run != c.queue {
			t.Errorf("%d: %d, %d, want %d, %d", i, sum, run, c.sum, c.queue)
		}
	}
}

// P14.2
func TestNormalAndEvidence(t *testing.T) {
	for i, c := range []struct {
		b    api.Boring
		logs []api.Log
	}{
		{usual(), []api.Log{sound(0, 20), flawed(25, 30)}},
		{at(1, 2), nil},
		{at(1, 2, sound(0, 5), flawed(5, 6), flawed(6, 7), flawed(8, 9), sound(9, 10), sound(10, 11), sound(11, 12)), []api.Log{sound(0, 5), flawed(5, 7), flawed(8, 9), sound(9, 12)}},
		{at(top-1, -top, sound(-top, 0), sound(0, top)), []api.Log{sound(-top, top)}},
		{many(64), many(64).Logs},
	} {
		got, e := boring.Normal(c.b)
		if !same(got, api.Boring{Name: c.b.Name, At: c.b.At, Logs: c.logs}) || e != api.OK {
			t.Errorf("%d: Normal = %v, %d", i, got, e)
		}
		var want []api.Evidence
		for _, l := range c.logs {
			want = append(want, api.Evidence{Source: c.b.Name, Box: bx(c.b.At.X, c.b.At.Y, l.Lo, c.b.At.X+1, c.b.At.Y+1, l.Hi), State: l.State})
		}
		if got, e := boring.Evidence(c.b); !slices.Equal(got, want) || e != api.OK {
			t.Errorf("%d: Evidence = %v, %d", i, got, e)
		}
	}
	b := usual()
	n, _ := boring.Normal(b)
	n.Logs[0].Lo = 7
	if !same(b, usual()) {
		t.Error("Normal shares memory")
	}
}

// P14.2, P14.3, P14.5, P1: the errors of formed borings.
func TestFormedErrors(t *testing.T) {
	for i, c := range slices.Concat(common(), unformed(), overlapping()) {
		n, e1 := boring.Normal(c.b)
		v, e2 := boring.Evidence(c.b)
		a, e3 := boring.Merge(c.b, api.Boring{})
		b, e4 := boring.Merge(usual(), c.b)
		l, e5 := boring.Line(c.b)
		if got := [5]api.Errno{e1, e2, e3, e4, e5}; got != [5]api.Errno{c.e, c.e, c.e, c.e, c.e} {
			t.Errorf("%d: %v, want %d", i, got, c.e)
		}
		if !reflect.DeepEqual([]any{n, v, a, b, l}, []any{api.Boring{}, []api.Evidence(nil), api.Boring{}, api.Boring{}, api.Line{}}) {
			t.Errorf("%d: results with errors", i)
		}
	}
}

// P14.3
func TestMerge(t *testing.T) {
	other := func(logs ...api.Log) api.Boring {
		b := at(5, 5, logs...)
		b.Name = "b2"
		return b
	}
	moved := other()
	moved.At.Y = 6
	for i, c := range []struct {
		b    api.Boring
		logs []api.Log
		e    api.Errno
	}{
		{other(sound(18, 25)), []api.Log{sound(0, 25), flawed(25, 30)}, api.OK},
		{other(), []api.Log{sound(0, 20), flawed(25, 30)}, api.OK},
		{other(flawed(20, 25)), []api.Log{sound(0, 20), flawed(20, 30)}, api.OK},
		{other(sound(2, 3), flawed(21, 22), flawed(24, 31)), []api.Log{sound(0, 20), flawed(21, 22), flawed(24, 31)}, api.OK},
		{other(sound(-5, 25), flawed(26, 27)), []api.Log{sound(-5, 25), flawed(25, 30)}, api.OK},
		{other(flawed(-top, 0), sound(20, 25), sound(30, top)), []api.Log{flawed(-top, 0), sound(0, 25), flawed(25, 30), sound(30, top)}, api.OK},
		{usual(), []api.Log{sound(0, 20), flawed(25, 30)}, api.OK},
		{other(flawed(15, 16)), nil, api.ErrConflict},
		{other(flawed(-5, 1)), nil, api.ErrConflict},
		{other(flawed(19, 20)), nil, api.ErrConflict},
		{other(sound(29, 30)), nil, api.ErrConflict},
		{other(sound(29, 40)), nil, api.ErrConflict},
		{moved, nil, api.ErrConflict},
	} {
		ab, e := boring.Merge(usual(), c.b)
		ba, f := boring.Merge(c.b, usual())
		if !slices.Equal(ab.Logs, c.logs) || e != c.e || !slices.Equal(ba.Logs, c.logs) || f != c.e {
			t.Errorf("%d: %v, %d; %v, %d", i, ab, e, ba, f)
		}
		if c.e == api.OK && (ab.Name != "b1" || ba.Name != c.b.Name || ab.At != usual().At) {
			t.Errorf("%d: %v; %v", i, ab, ba)
		}
		if c.e != api.OK && (!same(ab, api.Boring{}) || !same(ba, api.Boring{})) {
			t.Errorf("%d: results with errors", i)
		}
	}
}

// P14.3: the result of Merge may have more logs than are allowed; the errors of a come before those of b.
func TestMergeOfMany(t *testing.T) {
	a, b := at(1, 1), at(1, 1)
	var want []api.Log
	for i := range 64 {
		a.Logs = append(a.Logs, sound(10*i, 10*i+2))
		b.Logs = append(b.Logs, flawed(10*i+5, 10*i+8))
		want = append(want, a.Logs[i], b.Logs[i])
	}
	if got, e := boring.Merge(a, b); !slices.Equal(got.Logs, want) || e != api.OK {
		t.Errorf("Merge: %d logs, %d", len(got.Logs), e)
	}
	if _, e := boring.Merge(overlapping()[0].b, api.Boring{}); e != api.ErrOverlap {
		t.Errorf("Merge: %d", e)
	}
	if _, e := boring.Merge(api.Boring{}, overlapping()[0].b); e != api.ErrName {
		t.Errorf("Merge: %d", e)
	}
}

func flaw(name string, lo, hi int, c ...int) api.Flaw {
	f := api.Flaw{Name: name, Prism: api.Prism{Lo: lo, Hi: hi}}
	for i := 0; i < len(c); i += 2 {
		f.Prism.Base = append(f.Prism.Base, api.Point{X: c[i], Y: c[i+1]})
	}
	return f
}

func square(name string, lo, hi, from, to int) api.Flaw {
	return flaw(name, lo, hi, from, from, to, from, to, to, from, to)
}

// P14.3
func TestAgainst(t *testing.T) {
	s := func(flaws ...api.Flaw) api.Survey { return api.Survey{Pit: pit(), Flaws: flaws} }
	type list = []boring.Conflict
	for i, c := range []struct {
		b    api.Boring
		s    api.Survey
		want list
	}{
		{usual(), s(square("f", 15, 40, 0, 10)), list{{Flaw: "f", Lo: 15, Hi: 20}}},
		{usual(), s(), nil},
		{usual(), s(square("f", 20, 40, 0, 10)), nil},
		{usual(), s(square("f", 19, 40, 0, 10)), list{{Flaw: "f", Lo: 19, Hi: 20}}},
		{usual(), s(square("f", 0, 1, 0, 10)), list{{Flaw: "f", Lo: 0, Hi: 1}}},
		{usual(), s(square("f", 5, 12, 5, 6)), list{{Flaw: "f", Lo: 5, Hi: 12}}},
		{usual(), s(square("f", 0, 40, 6, 9)), nil},
		{usual(), s(square("f", 0, 40, 0, 5)), nil},
		{usual(), s(flaw("f", 0, 40, 0, 0, 10, 0, 0, 10)), nil},
		{usual(), s(flaw("f", 0, 40, 0, 0, 11, 0, 0, 10)), list{{Flaw: "f", Lo: 0, Hi: 20}}},
		{at(5, 5, sound(0, 10), flawed(10, 15), sound(15, 18), sound(18, 20), sound(21, 30)), s(square("a", 0, 100, 0, 10), square("b", 0, 100, 6, 10), square("c", 17, 25, 0, 10)), list{
			{Flaw: "a", Lo: 0, Hi: 10}, {Flaw: "a", Lo: 15, Hi: 20}, {Flaw: "a", Lo: 21, Hi: 30}, {Flaw: "c", Lo: 17, Hi: 20}, {Flaw: "c", Lo: 21, Hi: 25},
		}},
		{at(99, 0, sound(0, 100)), s(flaw("f", 0, 100, 0, 0, 100, 0, 100, 100)), list{{Flaw: "f", Lo: 0, Hi: 100}}},
		{at(0, 99, sound(0, 100)), s(flaw("f", 0, 100, 0, 0, 100, 0, 100, 100)), nil},
	} {
		if got, e := boring.Against(c.b, c.s); !slices.Equal(got, c.want) || e != api.OK {
			t.Errorf("%d: %v, %d, want %v", i, got, e, c.want)
		}
	}
	for i, c := range slices.Concat(common(), elsewhere(), overlapping()) {
		if got, e := boring.Against(c.b, s(square("f", 0, 40, 0, 10))); got != nil || e != c.e {
			t.Errorf("%d: %v, %d, want %d", i, got, e, c.e)
		}
		if got, e := boring.Against(c.b, s(square("F", 0, 40, 0, 10))); got != nil || e != api.ErrName {
			t.Errorf("%d: %v, %d", i, got, e)
		}
		if got, e := boring.Against(c.b, s(square("f", 0, 101, 0, 10))); got != nil || e != api.ErrOutside {
			t.Errorf("%d: %v, %d", i, got, e)
		}
	}
}

// P14.4
func TestNearest(t *testing.T) {
	list := []api.Boring{at(0, 0), at(10, 0), at(0, 10), at(10, 0), at(-top, -top), at(top, top)}
	for i, c := range []struct {
		p    api.Point
		want int
	}{
		{api.Point{}, 0}, {api.Point{X: 5}, 0}, {api.Point{X: 6}, 1}, {api.Point{X: 6, Y: 6}, 1}, {api.Point{X: 6, Y: 7}, 2}, {api.Point{X: 10}, 1}, {api.Point{X: -top, Y: -top}, 4}, {api.Point{X: top, Y: top}, 5}, {api.Point{X: top, Y: -top}, 1}, {api.Point{X: -top, Y: top}, 2}, {api.Point{X: top - 9, Y: top}, 5},
	} {
		if got, e := boring.Nearest(list, c.p); got != c.want || e != api.OK {
			t.Errorf("%d: %d, %d, want %d", i, got, e, c.want)
		}
	}
	odd := []api.Boring{{Logs: []api.Log{{Lo: 5}}}}
	if got, e := boring.Nearest(slices.Repeat(odd, 200), api.Point{X: 5}); got != 0 || e != api.OK {
		t.Errorf("Nearest: %d, %d", got, e)
	}
	for _, p := range []api.Point{{}, {X: top + 1}} {
		if got, e := boring.Nearest(nil, p); got != 0 || e != api.ErrNone {
			t.Errorf("Nearest: %d, %d", got, e)
		}
	}
	for _, c := range []int{top + 1, -top - 1, math.MaxInt, math.MinInt} {
		for i, x := range []struct {
			list []api.Boring
			p    api.Point
		}{{list, api.Point{X: c}}, {list, api.Point{Y: c}}, {[]api.Boring{at(0, 0), at(c, 0)}, api.Point{}}, {[]api.Boring{at(0, c), at(0, 0)}, api.Point{}}} {
			if got, e := boring.Nearest(x.list, x.p); got != 0 || e != api.ErrRange {
				t.Errorf("%d with %d: %d, %d", i, c, got, e)
			}
		}
	}
}

func randomBoring(r *rand.Rand) api.Boring {
	b := at(5, 5)
	b.Name = string(rune('a' + r.Intn(26)))
	for z := r.Intn(6) - 3; z < 25 && len(b.Logs) < 12; {
		hi := z + 1 + r.Intn(4)
		if r.Intn(3) > 0 {
			b.Logs = append(b.Logs, api.Log{Lo: z, Hi: hi, State: 1 + r.Intn(5)/4})
		}
		z = hi
	}
	return b
}

// said lists what a boring says, z by z.
func said(b api.Boring) []int {
	var states []int
	for z := -5; z < 35; z++ {
		states = append(states, boring.State(b, z))
	}
	return states
}

// wanted merges what two borings say, z by z.
func wanted(a, b []int) ([]int, bool) {
	both := slices.Clone(a)
	for i, y := range b {
		if both[i] != api.Unseen && y != api.Unseen && both[i] != y {
			return nil, false
		}
		both[i] = max(both[i], y)
	}
	return both, true
}

func touches(logs []api.Log) bool {
	for i := 1; i < len(logs); i++ {
		if logs[i-1].Hi == logs[i].Lo && logs[i-1].State == logs[i].State {
			return true
		}
	}
	return false
}

// P14.1, P14.2, P14.3, P14.6: against what the borings say z by z.
func TestRandomly(t *testing.T) {
	r := rand.New(rand.NewSource(14))
	conflicts := 0
	for range 4000 {
		a, b := randomBoring(r), randomBoring(r)
		n, e := boring.Normal(a)
		again, f := boring.Normal(n)
		if e != api.OK || f != api.OK || !slices.Equal(said(n), said(a)) || !same(again, n) || touches(n.Logs) {
			t.Fatalf("Normal(%v) = %v, %d, then %v", a, n, e, again)
		}
		seen, _ := boring.Evidence(a)
		volume := 0
		for i, x := range seen {
			volume += x.Box.Max.Z - x.Box.Min.Z
			if i > 0 && seen[i-1].Box.Max.Z > x.Box.Min.Z {
				t.Fatalf("Evidence(%v) = %v", a, seen)
			}
		}
		total := 0
		for _, state := range [2]int{api.Sound, api.Flawed} {
			sum, longest, run := 0, 0, 0
			for _, x := range said(a) {
				if x == state {
					sum, run = sum+1, run+1
				} else {
					run = 0
				}
				longest = max(longest, run)
			}
			if x, y := boring.Seen(a, state); x != sum || y != longest {
				t.Fatalf("Seen(%v, %d) = %d, %d", a, state, x, y)
			}
			total += sum
		}
		if total != volume {
			t.Fatalf("Evidence(%v) = %v", a, seen)
		}
		want, ok := wanted(said(a), said(b))
		ab, e := boring.Merge(a, b)
		ba, f := boring.Merge(b, a)
		if !ok {
			conflicts++
			if e != api.ErrConflict || f != api.ErrConflict {
				t.Fatalf("Merge(%v, %v): %d, %d", a, b, e, f)
			}
			continue
		}
		if e != api.OK || f != api.OK || !slices.Equal(said(ab), want) || !slices.Equal(ab.Logs, ba.Logs) || touches(ab.Logs) || ab.Name != a.Name || ba.Name != b.Name {
			t.Fatalf("Merge(%v, %v) = %v, %d, and %v, %d", a, b, ab, e, ba, f)
		}
	}
	if conflicts < 100 || conflicts > 3900 {
		t.Errorf("%d conflicts", conflicts)
	}
}

// P14.3: against the cells of flaws over the whole place, z by z.
func TestAgainstRandomly(t *testing.T) {
	r := rand.New(rand.NewSource(15))
	for range 1000 {
		b := randomBoring(r)
		b.Logs = slices.DeleteFunc(b.Logs, func(l api.Log) bool { return l.Lo < 0 })
		s := api.Survey{Pit: bx(0, 0, 0, 40, 40, 40)}
		var want []boring.Conflict
		for i := range r.Intn(5) {
			lo, from := r.Intn(30), r.Intn(8)
			f := square("f"+strconv.Itoa(i), lo, lo+1+r.Intn(10), from, from+1+r.Intn(8))
			s.Flaws = append(s.Flaws, f)
			first := len(want)
			for z := f.Prism.Lo; z < f.Prism.Hi; z++ {
				hit := from <= 5 && f.Prism.Base[2].X > 5 && boring.State(b, z) == api.Sound
				last := len(want) - 1
				switch {
				case !hit:
				case last >= first && want[last].Hi == z:
					want[last].Hi++
				default:
					want = append(want, boring.Conflict{Flaw: f.Name, Lo: z, Hi: z + 1})
				}
			}
		}
		if got, e := boring.Against(b, s); !slices.Equal(got, want) || e != api.OK {
			t.Fatalf("Against(%v, %v) = %v, %d, want %v", b, s, got, e, want)
		}
	}
}
