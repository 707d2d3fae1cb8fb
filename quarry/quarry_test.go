package quarry_test

import (
	"fmt"
	"math"
	"math/rand"
	"slices"
	"testing"

	"gangsaw/api"
	"gangsaw/bench"
	"gangsaw/quarry"
	"gangsaw/support"
)

func bx(x, y, z, x2, y2, z2 int) api.Box {
	return api.Box{Min: api.Vec{X: x, Y: y, Z: z}, Max: api.Vec{X: x2, Y: y2, Z: z2}}
}

func block(name string, x, y, z, x2, y2, z2 int) api.Block {
	return api.Block{Name: name, Box: bx(x, y, z, x2, y2, z2)}
}

func ev(source string, state int, b api.Box) api.Evidence {
	return api.Evidence{Source: source, Box: b, State: state}
}

// example is the site of the examples of chapter 18, with the joint, and a flaw within c.
func example() api.Site {
	return api.Site{
		Survey: api.Survey{
			Pit: bx(0, 0, 0, 100, 100, 40), Open: [4]bool{true}, Beds: []api.Bed{{Name: "k", Z: 0}, {Name: "l", Z: 20}},
			Joints: []api.Joint{{Name: "j", Axis: api.AxisX, At: 50, Lo: 0, Hi: 40}},
			Flaws:  []api.Flaw{{Name: "f", Prism: api.Prism{Base: api.Polygon{{X: 1, Y: 1}, {X: 5, Y: 1}, {X: 1, Y: 5}}, Lo: 3, Hi: 4}}},
		},
		Benches: []api.Bench{{Name: "low", Lo: 0, Hi: 20}, {Name: "high", Lo: 20, Hi: 40}},
		Blocks:  []api.Block{block("a", 50, 0, 20, 100, 100, 40), block("b", 50, 0, 0, 100, 100, 20), block("c", 0, 0, 0, 50, 100, 20)},
		Stands:  []api.Stand{{Name: "s", Radii: []int{1}, Limits: []int64{2}}},
		Density: 2700,
	}
}

func start(t *testing.T, s api.Site) *quarry.Quarry {
	t.Helper()
	q, e := quarry.New(s)
	if q == nil || e != api.OK {
		t.Fatalf("New: %d", e)
	}
	return q
}

func names(blocks []api.Block) []string {
	var list []string
	for _, b := range blocks {
		list = append(list, b.Name)
	}
	return list
}

// state is what can be seen of a quarry.
type state struct {
	blocks, taken []api.Block
	evidence      []api.Evidence
	events        []quarry.Event
}

func see(q *quarry.Quarry) state { return state{q.Blocks(), q.Taken(), q.Evidence(), q.Events()} }

func same(a, b state) bool {
	return slices.Equal(a.blocks, b.blocks) && slices.Equal(a.taken, b.taken) && slices.Equal(a.evidence, b.evidence) && slices.Equal(a.events, b.events)
}

// P22.1
func TestNew(t *testing.T) {
	q := start(t, example())
	if got := see(q); !same(got, state{blocks: example().Blocks}) {
		t.Errorf("a new quarry has %v", got)
	}
	bad := example()
	bad.Density = 0
	if q, e := quarry.New(bad); q != nil || e != api.ErrRange {
		t.Errorf("New of a bad site: %v, %d", q, e)
	}
	if q, n, e := quarry.Replay(bad, []quarry.Event{{}}); q != nil || n != 0 || e != api.ErrRange {
		t.Errorf("Replay of a bad site: %v, %d, %d", q, n, e)
	}
	if q, e := quarry.New(api.Site{}); q != nil || e != api.ErrInvalid {
		t.Errorf("New of no site: %v, %d", q, e)
	}
}

// P22.1, P22.2
func TestFree(t *testing.T) {
	q := start(t, example())
	for i, c := range []struct {
		name   string
		reason support.Reason
		e      api.Errno
		taken  []string
	}{
		{"b", support.Reason{Kind: support.Covered, By: "a"}, api.ErrConflict, nil},
		{"d", support.Reason{}, api.ErrUnknown, nil},
		{"", support.Reason{}, api.ErrUnknown, nil},
		{"c", support.Reason{Kind: support.Held}, api.ErrConflict, nil},
		{"a", support.Reason{}, api.OK, []string{"a"}},
		{"a", support.Reason{Kind: support.Gone}, api.ErrConflict, []string{"a"}},
		{"b", support.Reason{}, api.OK, []string{"a", "b"}},
		{"c", support.Reason{Kind: support.Held}, api.ErrConflict, []string{"a", "b"}},
	} {
		if got, e := q.Free(c.name); got != c.reason || e != c.e {
			t.Errorf("%d: Free(%q) = %v, %d", i, c.name, got, e)
		}
		if got := names(q.Taken()); !slices.Equal(got, c.taken) || len(q.Events()) != len(c.taken) {
			t.Errorf("%d: Taken = %v, %v", i, got, q.Events())
		}
	}
	want := state{[]api.Block{example().Blocks[2]}, example().Blocks[:2], nil, []quarry.Event{{Kind: quarry.Freed, Name: "a"}, {Kind: quarry.Freed, Name: "b"}}}
	if got := see(q); !same(got, want) {
		t.Errorf("the quarry has %v", got)
	}
}

// P22.1, P22.2: blocks are taken in another order than that of their names.
func TestOrderOfTaken(t *testing.T) {
	s := example()
	s.Blocks[0].Name, s.Blocks[1].Name = "b", "a"
	s.Blocks[0], s.Blocks[1] = s.Blocks[1], s.Blocks[0]
	q := start(t, s)
	q.Free("b")
	q.Free("a")
	if got := q.Taken(); !slices.Equal(got, []api.Block{s.Blocks[1], s.Blocks[0]}) {
		t.Errorf("Taken = %v", got)
	}
}

// P22.1, P22.2
func TestLearn(t *testing.T) {
	q := start(t, example())
	known := func(name string) bool {
		is, e := q.Known(name)
		if e != api.OK {
			t.Fatalf("Known(%q): %d", name, e)
		}
		return is
	}
	all, x := ev("all", api.Sound, bx(0, 0, 0, 100, 100, 40)), ev("x", api.Flawed, bx(60, 0, 30, 61, 1, 31))
	if known("a") || known("b") {
		t.Error("a new quarry knows something")
	}
	q.Free("a")
	if e := q.Learn(all); e != api.OK || !known("a") || !known("b") || known("c") {
		t.Errorf("Learn: %d, %v, %v, %v", e, known("a"), known("b"), known("c"))
	}
	for _, c := range []struct {
		x api.Evidence
		e api.Errno
	}{
		{ev("", 7, bx(0, 0, 0, 0, 0, 0)), api.ErrName}, {ev("y", 7, bx(0, 0, 0, 0, 0, 0)), api.ErrInvalid}, {ev("y", 7, bx(0, 0, 0, 1, 1, math.MaxInt)), api.ErrRange}, {ev("y", api.Clash, bx(0, 0, 0, 1, 1, 1)), api.ErrInvalid},
	} {
		if e := q.Learn(c.x); e != c.e || len(q.Evidence()) != 1 {
			t.Errorf("Learn(%v) = %d", c.x, e)
		}
	}
	if e := q.Learn(x); e != api.OK || known("a") || !known("b") {
		t.Errorf("Learn of a flaw: %d", e)
	}
	if got := q.Evidence(); !slices.Equal(got, []api.Evidence{all, x}) {
		t.Errorf("Evidence = %v", got)
	}
	want := []quarry.Event{{Kind: quarry.Freed, Name: "a"}, {Kind: quarry.Learned, Evidence: all}, {Kind: quarry.Learned, Evidence: x}}
	if got := q.Events(); !slices.Equal(got, want) {
		t.Errorf("Events = %v", got)
	}
	if is, e := q.Known("d"); is || e != api.ErrUnknown {
		t.Errorf("Known of no block: %v, %d", is, e)
	}
	for range api.MaxEvidence - 2 {
		if e := q.Learn(all); e != api.OK {
			t.Fatal(e)
		}
	}
	if e := q.Learn(ev("", 7, bx(0, 0, 0, 0, 0, 0))); e != api.ErrTooMany || len(q.Evidence()) != api.MaxEvidence {
		t.Errorf("Learn of too much: %d", e)
	}
}

// P22.1, P22.2
func TestDivide(t *testing.T) {
	q := start(t, example())
	q.Free("a")
	before := see(q)
	for _, c := range []struct {
		name          string
		axis, at      int
		first, second string
		e             api.Errno
	}{
		{"x", 7, 0, "A", "A", api.ErrUnknown},
		{"", 1, 40, "c1", "c2", api.ErrUnknown},
		{"a", 7, 0, "A", "A", api.ErrState},
		{"c", 2, 10, "A", "A", api.ErrRange},
		{"c", -1, 10, "c1", "c2", api.ErrRange},
		{"c", math.MaxInt, 10, "c1", "c2", api.ErrRange},
		{"c", 1, 0, "A", "A", api.ErrRange},
		{"c", 1, 100, "c1", "c2", api.ErrRange},
		{"c", 0, 50, "c1", "c2", api.ErrRange},
		{"c", 0, 0, "c1", "c2", api.ErrRange},
		{"c", 0, math.MinInt, "c1", "c2", api.ErrRange},
		{"c", 1, math.MaxInt, "c1", "c2", api.ErrRange},
		{"c", 0, 49, "A", "A", api.ErrName},
		{"c", 0, 49, "c1", "", api.ErrName},
		{"c", 0, 49, "c1", "c1", api.ErrDuplicate},
		{"c", 0, 49, "a", "c1", api.ErrDuplicate},
		{"c", 0, 49, "c1", "b", api.ErrDuplicate},
		{"c", 0, 49, "c", "c", api.ErrDuplicate},
	} {
		if e := q.Divide(c.name, c.axis, c.at, c.first, c.second); e != c.e || !same(see(q), before) {
			t.Errorf("Divide(%q, %d, %d, %q, %q) = %d, %v", c.name, c.axis, c.at, c.first, c.second, e, see(q))
		}
	}
	if e := q.Divide("c", 1, 40, "c1", "c2"); e != api.OK {
		t.Fatal(e)
	}
	if got := q.Blocks(); !slices.Equal(got, []api.Block{block("b", 50, 0, 0, 100, 100, 20), block("c1", 0, 0, 0, 50, 40, 20), block("c2", 0, 40, 0, 50, 100, 20)}) {
		t.Errorf("Blocks = %v", got)
	}
	// The names need not be in order, and one may be that of the block.
	if e := q.Divide("c2", 0, 49, "c2", "a0"); e != api.OK {
		t.Fatal(e)
	}
	if e := q.Divide("b", 0, 51, "z", "y"); e != api.OK {
		t.Fatal(e)
	}
	want := []api.Block{block("a0", 49, 40, 0, 50, 100, 20), block("c1", 0, 0, 0, 50, 40, 20), block("c2", 0, 40, 0, 49, 100, 20), block("y", 51, 0, 0, 100, 100, 20), block("z", 50, 0, 0, 51, 100, 20)}
	if got := q.Blocks(); !slices.Equal(got, want) || !slices.Equal(q.Taken(), before.taken) {
		t.Errorf("Blocks = %v, Taken = %v", got, q.Taken())
	}
	events := []quarry.Event{{Kind: quarry.Freed, Name: "a"}, {Kind: quarry.Divided, Name: "c", Axis: 1, At: 40, First: "c1", Second: "c2"}, {Kind: quarry.Divided, Name: "c2", At: 49, First: "c2", Second: "a0"}, {Kind: quarry.Divided, Name: "b", At: 51, First: "z", Second: "y"}}
	if got := q.Events(); !slices.Equal(got, events) {
		t.Errorf("Events = %v", got)
	}
	if is, e := q.Known("c"); is || e != api.ErrUnknown {
		t.Errorf("Known of what was divided: %v, %d", is, e)
	}
}

// P22.1: there are never more than MaxBlocks blocks.
func TestDivideTooOften(t *testing.T) {
	s := api.Site{Survey: api.Survey{Pit: bx(0, 0, 0, 1000, 1, 1)}, Benches: []api.Bench{{Name: "x", Lo: 0, Hi: 1}}, Blocks: []api.Block{block("b0", 0, 0, 0, 1000, 1, 1)}, Density: 1}
	q := start(t, s)
	for i := 1; i < api.MaxBlocks; i++ {
		if e := q.Divide(fmt.Sprintf("b%d", i-1), 0, i, fmt.Sprintf("a%d", i), fmt.Sprintf("b%d", i)); e != api.OK {
			t.Fatal(i, e)
		}
	}
	if e := q.Divide("b255", 0, 500, "b255", "b255"); e != api.ErrDuplicate {
		t.Errorf("Divide with equal names: %d", e)
	}
	if e := q.Divide("b255", 0, 500, "b255", "c"); e != api.ErrTooMany || len(q.Blocks()) != api.MaxBlocks {
		t.Errorf("Divide of too many: %d", e)
	}
}

// P22.1
func TestDo(t *testing.T) {
	all := ev("all", api.Sound, bx(0, 0, 0, 100, 100, 40))
	for i, c := range []struct {
		event quarry.Event
		e     api.Errno
	}{
		{quarry.Event{}, api.ErrInvalid},
		{quarry.Event{Kind: 4, Name: "a"}, api.ErrInvalid},
		{quarry.Event{Kind: -1, Name: "a"}, api.ErrInvalid},
		{quarry.Event{Kind: quarry.Freed, Name: "a", Axis: 1}, api.ErrInvalid},
		{quarry.Event{Kind: quarry.Freed, Name: "a", At: 1}, api.ErrInvalid},
		{quarry.Event{Kind: quarry.Freed, Name: "a", First: "x"}, api.ErrInvalid},
		{quarry.Event{Kind: quarry.Freed, Name: "a", Second: "x"}, api.ErrInvalid},
		{quarry.Event{Kind: quarry.Freed, Name: "x", Evidence: all}, api.ErrInvalid},
		{quarry.Event{Kind: quarry.Learned, Evidence: all, Name: "a"}, api.ErrInvalid},
		{quarry.Event{Kind: quarry.Learned, Evidence: all, Axis: 1}, api.ErrInvalid},
		{quarry.Event{Kind: quarry.Learned, Evidence: all, At: 1}, api.ErrInvalid},
		{quarry.Event{Kind: quarry.Learned, Evidence: all, First: "x"}, api.ErrInvalid},
		{quarry.Event{Kind: quarry.Learned, Evidence: all, Second: "x"}, api.ErrInvalid},
		{quarry.Event{Kind: quarry.Divided, Name: "x", Evidence: all}, api.ErrInvalid},
		{quarry.Event{Kind: quarry.Divided, Name: "c", At: 5, First: "x", Second: "y", Evidence: api.Evidence{State: 1}}, api.ErrInvalid},
		{quarry.Event{Kind: quarry.Freed, Name: "x"}, api.ErrUnknown},
		{quarry.Event{Kind: quarry.Freed, Name: "b"}, api.ErrConflict},
		{quarry.Event{Kind: quarry.Learned}, api.ErrName},
		{quarry.Event{Kind: quarry.Divided}, api.ErrUnknown},
		{quarry.Event{Kind: quarry.Divided, Name: "c"}, api.ErrRange},
		{quarry.Event{Kind: quarry.Freed, Name: "a"}, api.OK},
		{quarry.Event{Kind: quarry.Learned, Evidence: all}, api.OK},
		{quarry.Event{Kind: quarry.Divided, Name: "c", Axis: 1, At: 5, First: "x", Second: "y"}, api.OK},
	} {
		q := start(t, example())
		e := q.Do(c.event)
		want := state{blocks: example().Blocks}
		if c.e == api.OK {
			want = see(q)
			want.events = []quarry.Event{c.event}
		}
		if e != c.e || !same(see(q), want) {
			t.Errorf("%d: Do(%v) = %d, %v", i, c.event, e, see(q))
		}
		r, n, f := quarry.Replay(example(), []quarry.Event{{Kind: quarry.Learned, Evidence: all}, c.event})
		if f != c.e || c.e == api.OK && (n != 2 || r == nil) || c.e != api.OK && (n != 1 || r != nil) {
			t.Errorf("%d: Replay = %v, %d, %d", i, r, n, f)
		}
	}
	if q, n, e := quarry.Replay(example(), nil); n != 0 || e != api.OK || !same(see(q), state{blocks: example().Blocks}) {
		t.Errorf("Replay of nothing: %v, %d, %d", q, n, e)
	}
}

// P1: what goes in and out shares no memory with the quarry.
func TestMemory(t *testing.T) {
	s := example()
	q := start(t, s)
	if e := q.Learn(ev("all", api.Sound, bx(0, 0, 0, 100, 100, 40))); e != api.OK {
		t.Fatal(e)
	}
	s.Blocks[0].Name, s.Benches[0].Lo, s.Survey.Beds[0].Z, s.Survey.Joints[0].At, s.Survey.Flaws[0].Prism.Base[0].X, s.Survey.Flaws[0].Name = "zz", 7, 9, 3, 99, "zz"
	if _, e := q.Free("a"); e != api.OK {
		t.Errorf("Free: %d", e)
	}
	now := see(q)
	want := state{slices.Clone(now.blocks), slices.Clone(now.taken), slices.Clone(now.evidence), slices.Clone(now.events)}
	got := see(q)
	got.blocks[0].Name, got.taken[0].Name, got.evidence[0].Source, got.events[0].Name = "x", "x", "x", "x"
	if !same(see(q), want) {
		t.Errorf("the quarry has %v", see(q))
	}
	if is, e := q.Known("b"); !is || e != api.OK {
		t.Errorf("Known = %v, %d", is, e)
	}
}

// P1: no quarry, and one without a site.
func TestNoQuarry(t *testing.T) {
	var none *quarry.Quarry
	for _, q := range []*quarry.Quarry{none, {}} {
		if _, e := q.Free("a"); e != api.ErrUnknown {
			t.Errorf("Free: %d", e)
		}
		if e := q.Divide("a", 0, 1, "b", "c"); e != api.ErrUnknown {
			t.Errorf("Divide: %d", e)
		}
		if is, e := q.Known("a"); is || e != api.ErrUnknown {
			t.Errorf("Known: %d", e)
		}
		if e := q.Learn(api.Evidence{}); e != api.ErrName || !same(see(q), state{}) {
			t.Errorf("Learn: %d, %v", e, see(q))
		}
	}
	if e := none.Learn(ev("a", api.Sound, bx(0, 0, 0, 1, 1, 1))); e != api.ErrState {
		t.Errorf("Learn of no quarry: %d", e)
	}
}

func randomSite(r *rand.Rand) api.Site {
	s := api.Site{
		Survey:  api.Survey{Pit: bx(0, 0, 0, 12, 12, 6), Open: [4]bool{true, true, r.Intn(2) > 0, true}, Beds: []api.Bed{{Name: "k", Z: 0}, {Name: "l", Z: 2}, {Name: "m", Z: 4}}},
		Benches: []api.Bench{{Name: "x", Lo: 0, Hi: 2}, {Name: "y", Lo: 2, Hi: 4}, {Name: "z", Lo: 4, Hi: 6}},
		Safety:  api.Safety{Batter: 500 * r.Intn(3)},
		Density: 1,
	}
	for i := range r.Intn(5) {
		s.Survey.Joints = append(s.Survey.Joints, api.Joint{Name: fmt.Sprintf("j%d", i), Axis: r.Intn(2), At: 4 * r.Intn(4), Lo: 0, Hi: 6})
	}
	for i := range 12 {
		x, y, z := 4*r.Intn(3), 4*r.Intn(3), 2*r.Intn(3)
		s.Blocks = append(s.Blocks, block(fmt.Sprintf("b%02d", i), x, y, z, min(12, x+4*(1+r.Intn(2))), min(12, y+4*(1+r.Intn(2))), z+2))
		if bench.Check(s) != api.OK {
			s.Blocks = s.Blocks[:len(s.Blocks)-1]
		}
	}
	return s
}

func volume(blocks []api.Block) int {
	total := 0
	for _, b := range blocks {
		total += (b.Box.Max.X - b.Box.Min.X) * (b.Box.Max.Y - b.Box.Min.Y) * (b.Box.Max.Z - b.Box.Min.Z)
	}
	return total
}

// checkInvariant checks what holds in every run.
func checkInvariant(t *testing.T, s api.Site, q *quarry.Quarry) {
	t.Helper()
	now := s
	now.Blocks = append(q.Blocks(), q.Taken()...)
	slices.SortFunc(now.Blocks, func(a, b api.Block) int {
		if a.Name < b.Name {
			return -1
		}
		return 1
	})
	if e := bench.Check(now); e != api.OK || volume(now.Blocks) != volume(s.Blocks) {
		t.Fatalf("%v became %v: %d", s, now, e)
	}
	if name, e := support.Hanging(now, names(q.Taken())); e != api.ErrNone {
		t.Fatalf("%v: %q hangs, %d", now, name, e)
	}
	for _, a := range q.Taken() {
		above, _ := bench.Above(now, a.Name)
		for _, b := range q.Blocks() {
			if slices.Contains(above, b.Name) || !support.Clear(s.Safety, a.Box, b.Box) {
				t.Fatalf("%v: %v stands above %v, or is not clear of it", now, b, a)
			}
		}
	}
}

func randomEvent(r *rand.Rand, s api.Site, q *quarry.Quarry, i int) quarry.Event {
	blocks := append(q.Blocks(), q.Taken()...)
	if len(blocks) == 0 {
		return quarry.Event{}
	}
	b := blocks[r.Intn(len(blocks))]
	switch r.Intn(5) {
	case 0:
		return quarry.Event{Kind: quarry.Divided, Name: b.Name, Axis: r.Intn(3), At: r.Intn(13), First: fmt.Sprintf("p%d", r.Intn(20)), Second: fmt.Sprintf("q%d", i)}
	case 1:
		x, y, z := r.Intn(12), r.Intn(12), r.Intn(6)
		return quarry.Event{Kind: quarry.Learned, Evidence: ev("e", r.Intn(4), bx(x, y, z, x+1+r.Intn(4), y+1+r.Intn(4), z+1+r.Intn(3)))}
	}
	return quarry.Event{Kind: quarry.Freed, Name: b.Name}
}

// P22.1 to P22.5
func TestRuns(t *testing.T) {
	r := rand.New(rand.NewSource(1))
	count := map[int]int{}
	for range 120 {
		s := randomSite(r)
		q := start(t, s)
		for i := range 40 {
			before := see(q)
			event := randomEvent(r, s, q, i)
			if e := q.Do(event); e != api.OK {
				if !same(see(q), before) {
					t.Fatalf("%v: %v failed with %d and changed the quarry", s, event, e)
				}
				continue
			}
			count[event.Kind]++
			after := see(q)
			if !slices.Equal(after.events, append(before.events, event)) || !slices.Equal(after.taken[:len(before.taken)], before.taken) {
				t.Fatalf("%v: behind %v the quarry has %v", s, event, after)
			}
			checkInvariant(t, s, q)
		}
		again, n, e := quarry.Replay(s, q.Events())
		if n != len(q.Events()) || e != api.OK || !same(see(again), see(q)) {
			t.Fatalf("%v: Replay = %v, %d, %d", s, again, n, e)
		}
	}
	if count[quarry.Freed] < 150 || count[quarry.Learned] < 150 || count[quarry.Divided] < 150 {
		t.Errorf("%v", count)
	}
}

// P22.5: the order of the evidence does not matter to what is known.
func TestOrderOfEvidence(t *testing.T) {
	list := []api.Evidence{ev("a", api.Sound, bx(50, 0, 0, 100, 100, 30)), ev("b", api.Sound, bx(50, 0, 30, 100, 100, 40)), ev("c", api.Flawed, bx(60, 0, 5, 61, 1, 6))}
	for _, order := range [][]int{{0, 1, 2}, {2, 1, 0}, {1, 2, 0}} {
		q := start(t, example())
		for _, i := range order {
			q.Learn(list[i])
		}
		a, _ := q.Known("a")
		b, _ := q.Known("b")
		if !a || b {
			t.Errorf("behind %v: Known = %v, %v", order, a, b)
		}
	}
}
