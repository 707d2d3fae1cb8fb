package trace_test

import (
	"math"
	"math/rand"
	"slices"
	"strconv"
	"testing"

	"gangsaw/api"
	"gangsaw/box"
	"gangsaw/guillotine"
	"gangsaw/lineage"
	"gangsaw/orient"
	"gangsaw/trace"
)

const top = api.MaxCoord

func v(x, y, z int) api.Vec { return api.Vec{X: x, Y: y, Z: z} }

func bx(x, y, z, x2, y2, z2 int) api.Box { return api.Box{Min: v(x, y, z), Max: v(x2, y2, z2)} }

func piece(id, parent string, turn int, b api.Box) api.Piece {
	back, _ := orient.Invert(turn)
	size, _ := orient.Size(back, box.Size(b))
	pose, _ := orient.Place(turn, size, b.Min)
	return api.Piece{Id: id, Parent: parent, Pose: pose, Box: b}
}

// example is the lineage of the chapter's examples.
func example() []api.Piece {
	return []api.Piece{piece("b", "", 0, bx(100, 0, 0, 110, 4, 2)), piece("b.1", "b", 0, bx(0, 0, 0, 4, 4, 2))}
}

// family has a turned stone of b, and a block c.
func family() []api.Piece {
	return append(example(), piece("s", "b.1", 8, bx(0, 0, 0, 4, 4, 2)), piece("c", "", 0, bx(0, 0, 0, 5, 5, 5)), piece("b.2", "b", 5, bx(6, 0, 0, 10, 4, 2)))
}

// site has two benches, and the block b on the upper one.
func site() api.Site {
	return api.Site{
		Survey:  api.Survey{Pit: bx(0, -10, -10, 200, 50, 50)},
		Benches: []api.Bench{{Name: "low", Lo: -10, Hi: 0}, {Name: "high", Lo: 0, Hi: 10}},
		Blocks:  []api.Block{{Name: "b", Box: bx(100, 0, 0, 110, 4, 2)}},
		Density: 2700,
	}
}

func bare() api.Site {
	s := site()
	s.Blocks = nil
	return s
}

func flaw(b api.Box, state int) api.Evidence {
	return api.Evidence{Source: "face", Box: b, State: state}
}

// P56.1 to P56.4: the examples.
func TestExamples(t *testing.T) {
	list := example()
	steps, e := trace.History(list, "b.1")
	if !slices.Equal(steps, []trace.Step{{"b", bx(100, 0, 0, 110, 4, 2)}, {"b.1", bx(100, 0, 0, 104, 4, 2)}}) || e != api.OK {
		t.Errorf("History = %v, %d", steps, e)
	}
	if id, e := trace.At(list, v(103, 3, 1)); id != "b.1" || e != api.OK {
		t.Errorf("At = %q, %d", id, e)
	}
	if id, e := trace.At(list, v(105, 0, 0)); id != "" || e != api.ErrNone {
		t.Errorf("At = %q, %d", id, e)
	}
	for from, want := range map[int][]string{103: {"b.1"}, 104: nil} {
		if ids, e := trace.Suspects(list, []api.Evidence{flaw(bx(from, 0, 0, 120, 1, 1), api.Flawed)}); !slices.Equal(ids, want) || e != api.OK {
			t.Errorf("Suspects = %v, %d", ids, e)
		}
	}
	if part, whole, e := trace.Yield(list, "b"); part != 32 || whole != 80 || e != api.OK {
		t.Errorf("Yield = %d, %d, %d", part, whole, e)
	}
	if s, e := trace.Report(bare(), list, "b.1"); s != "piece b.1\nblock b unknown\nplace 100 0 0 to 104 4 2\nturn 0\nfrom b" || e != api.OK {
		t.Errorf("Report = %q, %d", s, e)
	}
	if s, e := trace.Report(site(), family(), "s"); s != "piece s\nblock b bench high\nplace 100 0 0 to 104 4 2\nturn 8\nfrom b.1\nfrom b" || e != api.OK {
		t.Errorf("Report = %q, %d", s, e)
	}
	if s, e := trace.Report(site(), family(), "c"); s != "piece c\nblock c unknown\nplace 0 0 0 to 5 5 5\nturn 0" || e != api.OK {
		t.Errorf("Report = %q, %d", s, e)
	}
}

// P56.1 to P56.4
func TestFamily(t *testing.T) {
	list := family()
	for id, want := range map[string]string{"s": "high", "b.2": "high", "b": "high", "c": ""} {
		name, e := trace.Bench(site(), list, id)
		if name != want || (e == api.OK) != (want != "") || e != api.OK && e != api.ErrNone {
			t.Errorf("Bench(%q) = %q, %d", id, name, e)
		}
	}
	for i, c := range []struct {
		b    api.Box
		want []string
	}{{bx(-top, -top, -top, top, top, top), []string{"b.2", "c", "s"}}, {bx(104, 0, 0, 106, 4, 2), nil}, {bx(103, 0, 0, 107, 1, 1), []string{"b.2", "s"}}, {bx(5, 0, 0, 6, 1, 1), nil}} {
		if ids, e := trace.Within(list, c.b); !slices.Equal(ids, c.want) || e != api.OK {
			t.Errorf("Within %d = %v, %d", i, ids, e)
		}
	}
	evidence := []api.Evidence{flaw(bx(-9, -9, -9, 200, 9, 9), api.Sound), flaw(bx(109, 0, 0, 110, 1, 1), api.Flawed), flaw(bx(0, 0, 0, 1, 1, 1), api.Flawed), flaw(bx(0, 0, 0, 2, 1, 1), api.Flawed)}
	if ids, e := trace.Suspects(list, evidence); !slices.Equal(ids, []string{"b.2", "c"}) || e != api.OK {
		t.Errorf("Suspects = %v, %d", ids, e)
	}
	if ids, e := trace.Suspects(list, nil); len(ids) != 0 || e != api.OK {
		t.Errorf("Suspects = %v, %d", ids, e)
	}
	for i, c := range []struct {
		id   string
		bed  int
		want bool
	}{{"s", api.BedAny, true}, {"s", api.BedNatural, true}, {"s", api.BedUp, false}, {"s", api.BedEdge, false}, {"b.2", api.BedEdge, true}, {"b.2", api.BedNatural, false}, {"b.1", api.BedUp, true}} {
		if got, e := trace.Bed(list, c.id, c.bed); got != c.want || e != api.OK {
			t.Errorf("Bed %d = %v, %d", i, got, e)
		}
	}
	for id, want := range map[string][2]int64{"b": {64, 80}, "c": {0, 125}} {
		if part, whole, e := trace.Yield(list, id); part != want[0] || whole != want[1] || e != api.OK {
			t.Errorf("Yield(%q) = %d, %d, %d", id, part, whole, e)
		}
	}
}

// P1: each error, and which one comes first.
func TestErrors(t *testing.T) {
	broken := family()
	broken[4].Box = bx(3, 0, 0, 7, 4, 2)
	broken[4] = piece("b.2", "b", 5, broken[4].Box)
	check := func(what string, list []api.Piece, want api.Errno) {
		t.Helper()
		steps, e1 := trace.History(list, "?")
		name, e2 := trace.Bench(site(), list, "?")
		is, e3 := trace.Bed(list, "?", 9)
		s, e4 := trace.Report(site(), list, "?")
		x, y, e5 := trace.Yield(list, "?")
		for i, e := range []api.Errno{e1, e2, e3, e4, e5} {
			if e != want {
				t.Errorf("%s, function %d: %d, want %d", what, i, e, want)
			}
		}
		if steps != nil || name+s != "" || is || x+y != 0 {
			t.Errorf("%s has results", what)
		}
	}
	check("pieces that overlap", broken, api.ErrOverlap)
	check("an unknown piece", family(), api.ErrUnknown)
	bad := []api.Evidence{{}}
	_, e1 := trace.At(broken, v(top, 0, 0))
	_, e2 := trace.Within(broken, api.Box{})
	_, e3 := trace.Suspects(broken, bad)
	ids, e4 := trace.Suspects(family(), bad)
	if e1 != api.ErrOverlap || e2 != api.ErrOverlap || e3 != api.ErrOverlap || e4 != api.ErrName || ids != nil {
		t.Errorf("%d, %d, %d, %v, %d", e1, e2, e3, ids, e4)
	}
	wrong := site()
	wrong.Density = 0
	_, e1 = trace.Bench(wrong, broken, "?")
	_, e2 = trace.Report(wrong, broken, "?")
	if e1 != api.ErrRange || e2 != api.ErrRange {
		t.Errorf("%d, %d", e1, e2)
	}
	if x, y, e := trace.Yield(family(), "b.1"); x != 0 || y != 0 || e != api.ErrInvalid {
		t.Errorf("Yield = %d, %d, %d", x, y, e)
	}
	for _, n := range []int{top, -top - 1, math.MaxInt, math.MinInt} {
		for _, cell := range []api.Vec{v(n, 0, 0), v(0, n, 0), v(0, 0, n)} {
			if id, e := trace.At(family(), cell); id != "" || e != api.ErrRange {
				t.Errorf("At(%v) = %q, %d", cell, id, e)
			}
		}
	}
	if _, e := trace.At(family(), v(top-1, -top, 0)); e != api.ErrNone {
		t.Errorf("At = %d", e)
	}
	for i, b := range []api.Box{{}, bx(0, 0, 0, 1, 1, top+1), bx(2, 0, 0, 1, 1, 1)} {
		if ids, e := trace.Within(family(), b); ids != nil || e != api.ErrInvalid {
			t.Errorf("Within %d = %v, %d", i, ids, e)
		}
	}
	for _, bed := range []int{-1, 4, math.MaxInt} {
		if is, e := trace.Bed(family(), "s", bed); is || e != api.ErrInvalid {
			t.Errorf("Bed = %v, %d", is, e)
		}
	}
}

// grown cuts and turns pieces of two blocks at random.
func grown(r *rand.Rand) []api.Piece {
	list := []api.Piece{piece("b", "", r.Intn(24), bx(-5, 7, 9, 15, 27, 25)), piece("c", "", r.Intn(24), bx(20, 0, 0, 40, 12, 12))}
	for range 6 {
		present, _ := lineage.Present(list)
		id := present[r.Intn(len(present))]
		p, _ := lineage.Find(list, id)
		back, _ := orient.Invert(p.Pose.Turn)
		own, _ := orient.Size(back, box.Size(p.Box))
		if r.Intn(3) == 0 || min(own.X, own.Y, own.Z) < 4 {
			list = append(list, piece("t"+strconv.Itoa(len(list)), id, r.Intn(24), api.Box{Max: own}))
			continue
		}
		plan, _ := guillotine.Parse(own, []string{"x2/1(p a;o b)", "y1/0(p a;z2/1(w;p b))", "z1/2(o a;p b)"}[r.Intn(3)])
		list, _ = lineage.Cut(list, id, plan)
	}
	return list
}

// P56.1, P56.2, P56.4, P56.5: against the answers of the lineage.
func TestProperties(t *testing.T) {
	r := rand.New(rand.NewSource(1))
	for range 300 {
		list := grown(r)
		present, e := lineage.Present(list)
		if e != api.OK {
			t.Fatal(e)
		}
		places := map[string]api.Box{}
		yields := map[string]int64{}
		for _, id := range present {
			places[id], _ = lineage.Place(list, id)
			way, _ := lineage.Way(list, id)
			n, _ := box.Volume(places[id])
			if block := way[len(way)-1]; block != id {
				yields[block] += n
			}
			steps, e := trace.History(list, id)
			slices.Reverse(way)
			for i, s := range steps {
				want, _ := lineage.Place(list, way[i])
				if e != api.OK || s.Id != way[i] || s.Box != want || i > 0 && !box.Inside(s.Box, steps[i-1].Box) || len(steps) != len(way) {
					t.Fatalf("History(%v, %q) = %v, %d", list, id, steps, e)
				}
			}
		}
		for _, block := range []string{"b", "c"} {
			whole, _ := box.Volume(list[map[string]int{"b": 0, "c": 1}[block]].Box)
			if part, all, e := trace.Yield(list, block); part != yields[block] || all != whole || part > all || e != api.OK {
				t.Fatalf("Yield(%v, %q) = %d, %d, %d", list, block, part, all, e)
			}
		}
		checkPlaces(t, r, list, present, places)
	}
}

func checkPlaces(t *testing.T, r *rand.Rand, list []api.Piece, present []string, places map[string]api.Box) {
	overlap := func(b api.Box) []string {
		var ids []string
		for _, id := range present {
			if box.Overlap(places[id], b) {
				ids = append(ids, id)
			}
		}
		return ids
	}
	var evidence []api.Evidence
	before := 0
	for range 20 {
		cell := v(r.Intn(50)-8, r.Intn(30), r.Intn(28))
		unit := api.Box{Min: cell, Max: v(cell.X+1, cell.Y+1, cell.Z+1)}
		want := overlap(unit)
		id, e := trace.At(list, cell)
		ids, _ := trace.Within(list, unit)
		if len(want) > 1 || (len(want) == 1) != (e == api.OK) || e == api.OK && id != want[0] || !slices.Equal(ids, want) {
			t.Fatalf("At(%v, %v) = %q, %d; Within = %v, want %v", list, cell, id, e, ids, want)
		}
		b := api.Box{Min: cell, Max: v(cell.X+1+r.Intn(9), cell.Y+1+r.Intn(9), cell.Z+1+r.Intn(9))}
		if ids, e := trace.Within(list, b); !slices.Equal(ids, overlap(b)) || e != api.OK {
			t.Fatalf("Within(%v, %v) = %v, %d", list, b, ids, e)
		}
		evidence = append(evidence, flaw(unit, 1+r.Intn(2)))
		suspects, e := trace.Suspects(list, evidence)
		if len(suspects) < before || e != api.OK || !slices.IsSorted(suspects) {
			t.Fatalf("Suspects(%v, %v) = %v, %d", list, evidence, suspects, e)
		}
		before = len(suspects)
	}
}
