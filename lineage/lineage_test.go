package lineage_test

import (
	"math"
	"math/rand"
	"slices"
	"strconv"
	"strings"
	"testing"

	"gangsaw/api"
	"gangsaw/box"
	"gangsaw/guillotine"
	"gangsaw/lineage"
	"gangsaw/orient"
)

const top = api.MaxCoord

func v(x, y, z int) api.Vec { return api.Vec{X: x, Y: y, Z: z} }

func bx(x, y, z, x2, y2, z2 int) api.Box { return api.Box{Min: v(x, y, z), Max: v(x2, y2, z2)} }

// piece has the right pose for its turn and box.
func piece(id, parent string, turn int, b api.Box) api.Piece {
	back, _ := orient.Invert(turn)
	size, _ := orient.Size(back, box.Size(b))
	pose, _ := orient.Place(turn, size, b.Min)
	return api.Piece{Id: id, Parent: parent, Pose: pose, Box: b}
}

func plan(text string, size api.Vec) []api.Node {
	nodes, _ := guillotine.Parse(size, text)
	return nodes
}

// example is the lineage of the chapter's examples.
func example() []api.Piece {
	return []api.Piece{
		{Id: "b", Pose: api.Pose{Shift: v(100, 0, 0)}, Box: bx(100, 0, 0, 110, 4, 2)},
		{Id: "b.1", Parent: "b", Box: bx(0, 0, 0, 4, 4, 2)},
		{Id: "s", Parent: "b.1", Pose: api.Pose{Turn: 8, Shift: v(0, 0, 2)}, Box: bx(0, 0, 0, 4, 4, 2)},
	}
}

// P32.1 to P32.3: the examples.
func TestExamples(t *testing.T) {
	list := example()
	cut, e := lineage.Cut(list[:1], "b", plan("x4/1(p a;w)", v(10, 4, 2)))
	if !slices.Equal(cut, list[:2]) || e != api.OK {
		t.Errorf("Cut = %v, %d", cut, e)
	}
	if b, e := lineage.Place(cut, "b.1"); b != bx(100, 0, 0, 104, 4, 2) || e != api.OK {
		t.Errorf("Place = %v, %d", b, e)
	}
	if n, e := lineage.Lost(cut, "b"); n != 48 || e != api.OK {
		t.Errorf("Lost = %d, %d", n, e)
	}
	if e := lineage.Check(list); e != api.OK {
		t.Fatal(e)
	}
	p, e := lineage.Pose(list, "s")
	if q, _ := orient.Point(p, v(0, 0, 0)); q != v(100, 0, 2) || p.Turn != 8 || e != api.OK {
		t.Errorf("Pose = %v, %d", p, e)
	}
	if id, e := lineage.Common(list, "s", "b"); id != "b" || e != api.OK {
		t.Errorf("Common = %q, %d", id, e)
	}
	if way, e := lineage.Way(list, "s"); !slices.Equal(way, []string{"s", "b.1", "b"}) || e != api.OK {
		t.Errorf("Way = %v, %d", way, e)
	}
	if ids, e := lineage.Present(list); !slices.Equal(ids, []string{"s"}) || e != api.OK {
		t.Errorf("Present = %v, %d", ids, e)
	}
	if got, e := lineage.Find(list, "b.1"); got != list[1] || e != api.OK {
		t.Errorf("Find = %v, %d", got, e)
	}
}

// family has two blocks, and pieces that were turned.
func family() []api.Piece {
	return []api.Piece{
		piece("b", "", 16, bx(-10, 0, 0, 0, 20, 30)),
		piece("c", "", 0, bx(0, 0, 0, 5, 5, 5)),
		piece("b.2", "b", 8, bx(0, 0, 0, 20, 10, 10)),
		piece("b.10", "b", 5, bx(0, 10, 0, 20, 30, 10)),
		piece("z", "b.2", 23, bx(0, 0, 0, 10, 5, 10)),
		piece("a", "b.2", 3, bx(0, 5, 0, 10, 20, 10)),
		piece("c.1", "c", 0, bx(0, 0, 0, 5, 5, 5)),
	}
}

// P32.2, P32.3, P32.4
func TestFamily(t *testing.T) {
	list := family()
	if e := lineage.Check(list); e != api.OK {
		t.Fatal(e)
	}
	for id, want := range map[string][]string{"b": {"b.10", "b.2"}, "b.2": {"a", "z"}, "a": nil, "c": {"c.1"}} {
		if kids, e := lineage.Kids(list, id); !slices.Equal(kids, want) || e != api.OK {
			t.Errorf("Kids(%q) = %v, %d", id, kids, e)
		}
	}
	if ids, e := lineage.Present(list); !slices.Equal(ids, []string{"a", "b.10", "c.1", "z"}) || e != api.OK {
		t.Errorf("Present = %v, %d", ids, e)
	}
	for _, c := range []struct {
		a, b, want string
		e          api.Errno
	}{
		{"a", "z", "b.2", api.OK}, {"z", "b.10", "b", api.OK}, {"z", "b.2", "b.2", api.OK}, {"b.2", "z", "b.2", api.OK}, {"a", "a", "a", api.OK}, {"b", "z", "b", api.OK},
		{"a", "c.1", "", api.ErrNone}, {"b", "c", "", api.ErrNone}, {"a", "x", "", api.ErrUnknown}, {"x", "a", "", api.ErrUnknown},
	} {
		if got, e := lineage.Common(list, c.a, c.b); got != c.want || e != c.e {
			t.Errorf("Common(%q, %q) = %q, %d", c.a, c.b, got, e)
		}
	}
	for id, want := range map[string]int64{"b": 0, "b.2": 0, "b.10": 4000, "c": 0, "a": 1500} {
		if n, e := lineage.Lost(list, id); n != want || e != api.OK {
			t.Errorf("Lost(%q) = %d, %d", id, n, e)
		}
	}
	if a, b, e := lineage.Overlap(list); a != "" || b != "" || e != api.ErrNone {
		t.Errorf("Overlap = %q, %q, %d", a, b, e)
	}
	if ids, e := lineage.Present(nil); len(ids) != 0 || e != api.OK {
		t.Errorf("Present = %v, %d", ids, e)
	}
}

// P32.1: ids.
func TestIds(t *testing.T) {
	long := strings.Repeat("a", 24)
	for id, isId := range map[string]bool{
		"a": true, "a_1.1": true, "a.1024": true, "a.1.2.3": true, long + ".1": true, "a" + strings.Repeat(".1", 29): true, "a" + strings.Repeat(".1", 28) + ".12": true,
		"": false, "A": false, "a.": false, ".1": false, "a.0": false, "a.01": false, "a.1025": false, "a.-1": false, "a.+1": false, "a.b": false, "a..1": false, "a.1 ": false, "1": false,
		long + "a": false, long + "a.1": false, "a" + strings.Repeat(".1", 29) + "1": true, "a" + strings.Repeat(".1", 30): false, "a.99999999999999999999": false,
	} {
		want := api.OK
		if !isId {
			want = api.ErrName
		}
		if e := lineage.Check([]api.Piece{piece(id, "", 0, bx(0, 0, 0, 1, 1, 1))}); e != want {
			t.Errorf("Check of %q: %d", id, e)
		}
	}
}

type refusal struct {
	list []api.Piece
	e    api.Errno
}

func refusals() []refusal {
	with := func(change func(p []api.Piece)) []api.Piece {
		list := family()
		change(list)
		return list
	}
	list := []refusal{
		{make([]api.Piece, api.MaxPieces+1), api.ErrTooMany},
		{with(func(p []api.Piece) { p[6].Id, p[1].Id = "", "b" }), api.ErrName},
		{with(func(p []api.Piece) { p[6].Id, p[0].Parent = "b", "x" }), api.ErrDuplicate},
		{with(func(p []api.Piece) { p[6].Parent, p[0].Box = "x", api.Box{} }), api.ErrUnknown},
		{with(func(p []api.Piece) { p[1].Parent = "c" }), api.ErrUnknown},
		{with(func(p []api.Piece) { p[1].Parent = "b.2" }), api.ErrUnknown},
		{with(func(p []api.Piece) { p[5].Pose.Shift.X++; p[2].Box = bx(0, 0, 0, 21, 10, 10) }), api.ErrInvalid},
		{with(func(p []api.Piece) { p[5].Pose.Turn = 0 }), api.ErrInvalid},
		{with(func(p []api.Piece) { p[5].Pose.Shift = v(math.MaxInt, math.MinInt, 0) }), api.ErrInvalid},
		{with(func(p []api.Piece) { p[4].Box = bx(0, 0, 0, 0, 5, 10) }), api.ErrInvalid},
		{with(func(p []api.Piece) { p[0].Box = bx(-top-1, 0, 0, 0, 1, 1) }), api.ErrInvalid},
		{with(func(p []api.Piece) { p[0] = piece("b", "", 0, bx(-top, 0, 0, 1, 20, 30)) }), api.ErrInvalid},
		{with(func(p []api.Piece) { p[0].Box = bx(math.MinInt, 0, 0, math.MaxInt, 1, 1) }), api.ErrInvalid},
		{with(func(p []api.Piece) { p[6] = piece("c.1", "c", 0, bx(0, 0, 0, 6, 5, 5)) }), api.ErrOutside},
		{with(func(p []api.Piece) {
			p[6] = piece("c.1", "c", 0, bx(0, -1, 0, 5, 5, 5))
			p[1] = piece("c", "", 0, p[0].Box)
		}), api.ErrOutside},
		{with(func(p []api.Piece) { p[2] = piece("b.2", "b", 8, bx(0, 0, 0, 10, 20, 10)) }), api.ErrOutside},
		{with(func(p []api.Piece) { p[1] = piece("c", "", 0, bx(-1, 0, 0, 5, 5, 5)) }), api.ErrOverlap},
		{with(func(p []api.Piece) { p[3] = piece("b.10", "b", 5, bx(0, 9, 0, 20, 30, 10)) }), api.ErrOverlap},
		{with(func(p []api.Piece) { p[5] = piece("a", "b.2", 0, bx(9, 4, 9, 10, 20, 10)) }), api.ErrOverlap},
	}
	for _, turn := range []int{-1, 24, math.MaxInt, math.MinInt} {
		list = append(list, refusal{with(func(p []api.Piece) { p[0].Pose.Turn = turn }), api.ErrInvalid})
	}
	return list
}

// P32.1, P1: each error, and which one comes first.
func TestErrors(t *testing.T) {
	for i, c := range refusals() {
		p, e1 := lineage.Find(c.list, "?")
		q, e2 := lineage.Pose(c.list, "?")
		b, e3 := lineage.Place(c.list, "?")
		way, e4 := lineage.Way(c.list, "?")
		kids, e5 := lineage.Kids(c.list, "?")
		ids, e6 := lineage.Present(c.list)
		id, e7 := lineage.Common(c.list, "?", "?")
		x, y, e8 := lineage.Overlap(c.list)
		cut, e9 := lineage.Cut(c.list, "?", nil)
		n, e10 := lineage.Lost(c.list, "?")
		for k, e := range []api.Errno{lineage.Check(c.list), e1, e2, e3, e4, e5, e6, e7, e8, e9, e10} {
			if e != c.e {
				t.Errorf("refusal %d, function %d: %d, want %d", i, k, e, c.e)
			}
		}
		if p != (api.Piece{}) || q != (api.Pose{}) || b != (api.Box{}) || way != nil || kids != nil || ids != nil || id+x+y != "" || cut != nil || n != 0 {
			t.Errorf("refusal %d has results", i)
		}
	}
	list := family()
	_, e1 := lineage.Find(list, "?")
	_, e2 := lineage.Pose(list, "")
	_, e3 := lineage.Place(list, "b.1")
	_, e4 := lineage.Way(list, "?")
	_, e5 := lineage.Kids(list, "")
	_, e6 := lineage.Cut(list, "?", nil)
	_, e7 := lineage.Lost(list, "")
	for k, e := range []api.Errno{e1, e2, e3, e4, e5, e6, e7} {
		if e != api.ErrUnknown {
			t.Errorf("function %d: %d", k, e)
		}
	}
}

// P32.3
func TestCut(t *testing.T) {
	list := family()
	size := v(20, 10, 20) // of b.10, in its own frame
	want := []api.Piece{
		{Id: "b.10.1", Parent: "b.10", Box: bx(0, 0, 0, 4, 5, 20)},
		{Id: "b.10.2", Parent: "b.10", Pose: api.Pose{Shift: v(5, 0, 0)}, Box: bx(5, 0, 0, 20, 6, 20)},
		{Id: "b.10.3", Parent: "b.10", Pose: api.Pose{Shift: v(5, 8, 0)}, Box: bx(5, 8, 0, 20, 10, 20)},
	}
	cut, e := lineage.Cut(list, "b.10", plan("x4/1(y5/0(o a;w);y6/2(p b;o c))", size))
	if len(cut) != 10 || !slices.Equal(cut[:7], list) || !slices.Equal(cut[7:], want) || e != api.OK {
		t.Errorf("Cut = %v, %d", cut, e)
	}
	if e := lineage.Check(cut); e != api.OK {
		t.Errorf("Check = %d", e)
	}
	cut[0].Id = "q"
	if list[0].Id != "b" {
		t.Error("Cut shares memory with its argument")
	}
	if cut, e := lineage.Cut(list, "a", []api.Node{{}}); !slices.Equal(cut, list) || e != api.OK {
		t.Errorf("Cut = %v, %d", cut, e)
	}
	if cut, e := lineage.Cut(list, "b.2", nil); cut != nil || e != api.ErrState {
		t.Errorf("Cut = %v, %d", cut, e)
	}
	if cut, e := lineage.Cut(list, "a", nil); cut != nil || e != api.ErrInvalid {
		t.Errorf("Cut = %v, %d", cut, e)
	}
}

// P32.3, P1
func TestCutErrors(t *testing.T) {
	product := []api.Node{{Kind: api.Product, Name: "p"}}
	long := "a" + strings.Repeat(".1", 29)
	list := []api.Piece{piece(long, "", 0, bx(0, 0, 0, 1, 1, 1))}
	if cut, e := lineage.Cut(list, long, product); cut != nil || e != api.ErrName {
		t.Errorf("Cut = %v, %d", cut, e)
	}
	if cut, e := lineage.Cut(list, long, []api.Node{{}}); len(cut) != 1 || e != api.OK {
		t.Errorf("Cut = %v, %d", cut, e)
	}
	list = append(list, piece("b", "", 0, bx(5, 0, 0, 7, 1, 1)), piece("b.2", "", 0, bx(9, 0, 0, 10, 1, 1)))
	if cut, e := lineage.Cut(list, "b", plan("x1/0(p p;o p)", v(2, 1, 1))); cut != nil || e != api.ErrDuplicate {
		t.Errorf("Cut = %v, %d", cut, e)
	}
	if cut, e := lineage.Cut(list, "b", product); len(cut) != 4 || e != api.OK {
		t.Errorf("Cut = %v, %d", cut, e)
	}
	var many []api.Piece
	for i := range api.MaxPieces - 1 {
		many = append(many, piece("p"+strconv.Itoa(i), "", 0, bx(2*i, 0, 0, 2*i+2, 1, 1)))
	}
	if cut, e := lineage.Cut(many, "p9", product); len(cut) != api.MaxPieces || e != api.OK {
		t.Errorf("Cut: %d, %d", len(cut), e)
	}
	if cut, e := lineage.Cut(many, "p9", plan("x1/0(p p;o p)", v(2, 1, 1))); cut != nil || e != api.ErrTooMany {
		t.Errorf("Cut: %d, %d", len(cut), e)
	}
}

// P32.5
func TestProperties(t *testing.T) {
	r := rand.New(rand.NewSource(1))
	for range 300 {
		size := v(20+r.Intn(20), 20+r.Intn(20), 20+r.Intn(20))
		list := []api.Piece{piece("b", "", r.Intn(24), api.Box{Min: v(-5, 7, 9), Max: v(size.X-5, size.Y+7, size.Z+9)})}
		for range 4 {
			present, _ := lineage.Present(list)
			id := present[r.Intn(len(present))]
			p, _ := lineage.Find(list, id)
			back, _ := orient.Invert(p.Pose.Turn)
			own, _ := orient.Size(back, box.Size(p.Box))
			if min(own.X, own.Y, own.Z) < 4 {
				continue
			}
			text := []string{"x2/1(p a;o b)", "y1/0(p a;z2/1(w;p b))", "z1/2(o a;p b)"}[r.Intn(3)]
			before := places(list)
			cut, e := lineage.Cut(list, id, plan(text, own))
			if e != api.OK || lineage.Check(cut) != api.OK {
				t.Fatalf("Cut(%v, %q, %q) = %v, %d", list, id, text, cut, e)
			}
			for other, b := range before {
				if now, _ := lineage.Place(cut, other); now != b {
					t.Fatalf("the place of %q is now %v, not %v", other, now, b)
				}
			}
			volumes, _ := guillotine.Volumes(own, plan(text, own))
			if lost, _ := lineage.Lost(cut, id); lost != volumes[2]+volumes[3] {
				t.Fatalf("Lost(%q) = %d", id, lost)
			}
			list = turned(r, cut)
		}
		checkPlaces(t, list)
	}
}

// turned appends a piece that is another one, turned.
func turned(r *rand.Rand, list []api.Piece) []api.Piece {
	present, _ := lineage.Present(list)
	p, _ := lineage.Find(list, present[r.Intn(len(present))])
	back, _ := orient.Invert(p.Pose.Turn)
	own, _ := orient.Size(back, box.Size(p.Box))
	return append(list, piece("t"+strconv.Itoa(len(list)), p.Id, r.Intn(24), api.Box{Max: own}))
}

func places(list []api.Piece) map[string]api.Box {
	all := map[string]api.Box{}
	for _, p := range list {
		all[p.Id], _ = lineage.Place(list, p.Id)
	}
	return all
}

func checkPlaces(t *testing.T, list []api.Piece) {
	all := places(list)
	for _, p := range list {
		in, _ := box.Volume(all[p.Id])
		own, _ := box.Volume(p.Box)
		if in != own || p.Parent != "" && !box.Inside(all[p.Id], all[p.Parent]) {
			t.Fatalf("the place of %v is %v", p, all[p.Id])
		}
		pose, _ := lineage.Pose(list, p.Id)
		back, _ := orient.Invert(p.Pose.Turn)
		size, _ := orient.Size(back, box.Size(p.Box))
		if b, _ := orient.Box(pose, api.Box{Max: size}); b != all[p.Id] {
			t.Fatalf("Pose(%q) = %v", p.Id, pose)
		}
	}
	present, _ := lineage.Present(list)
	for i, a := range present {
		for _, b := range present[:i] {
			if box.Overlap(all[a], all[b]) {
				t.Fatalf("%q and %q overlap", a, b)
			}
		}
	}
}
