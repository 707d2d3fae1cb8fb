package nest_test

import (
	"math"
	"math/rand"
	"reflect"
	"slices"
	"strconv"
	"strings"
	"testing"

	"gangsaw/api"
	"gangsaw/box"
	"gangsaw/guillotine"
	"gangsaw/nest"
	"gangsaw/orient"
)

const top = api.MaxCoord

func v(x, y, z int) api.Vec { return api.Vec{X: x, Y: y, Z: z} }

func bx(x, y, z, x2, y2, z2 int) api.Box { return api.Box{Min: v(x, y, z), Max: v(x2, y2, z2)} }

func block(name string, b api.Box) api.Block { return api.Block{Name: name, Box: b} }

func want(name string, bed, x, y, z int) nest.Wanted {
	return nest.Wanted{Name: name, Size: v(x, y, z), Bed: bed}
}

// example is the order of the chapter's examples.
func example(wanted ...nest.Wanted) nest.Order {
	return nest.Order{Blocks: []api.Block{block("b1", bx(10, 0, 0, 110, 50, 40))}, Wanted: wanted, Kerf: 5}
}

func text(size api.Vec, plan []api.Node) string {
	s, _ := guillotine.Text(size, plan)
	return s
}

// P46.2, P46.3: the examples.
func TestExamples(t *testing.T) {
	o := example(want("s", api.BedAny, 60, 50, 40))
	list, left, e := nest.Nest(o)
	if len(list) != 1 || list[0].Block != "b1" || text(v(100, 50, 40), list[0].Plan) != "x60/5(p s;o rest)" || len(left) != 0 || e != api.OK {
		t.Fatalf("Nest = %v, %v, %d", list, left, e)
	}
	pieces := []api.Piece{{Id: "b1", Pose: api.Pose{Shift: v(10, 0, 0)}, Box: bx(10, 0, 0, 110, 50, 40)}, {Id: "b1.1", Parent: "b1", Box: bx(0, 0, 0, 60, 50, 40)}}
	if !slices.Equal(list[0].Pieces, pieces) {
		t.Errorf("Pieces = %v", list[0].Pieces)
	}
	if b, name, e := nest.Place(o, list, "s"); b != bx(10, 0, 0, 70, 50, 40) || name != "b1" || e != api.OK {
		t.Errorf("Place = %v, %q, %d", b, name, e)
	}
	if stones, blocks, e := nest.Yield(o, list); stones != 120000 || blocks != 200000 || e != api.OK {
		t.Errorf("Yield = %d, %d, %d", stones, blocks, e)
	}
	o = example(want("s", api.BedAny, 60, 50, 40), want("t", api.BedAny, 30, 40, 20))
	list, left, e = nest.Nest(o)
	if len(list) != 1 || text(v(100, 50, 40), list[0].Plan) != "x60/5(p s;x85/5(y30/5(p t;o rest);o rest))" || len(left) != 0 || e != api.OK {
		t.Errorf("Nest = %v, %v, %d: %q", list, left, e, text(v(100, 50, 40), list[0].Plan))
	}
	o.Wanted[1].Bed = api.BedNatural
	if list, left, e := nest.Nest(o); len(list) != 1 || !slices.Equal(left, []string{"t"}) || e != api.OK {
		t.Errorf("Nest = %v, %v, %d", list, left, e)
	}
}

// P46.2: the rests are in the order of the axes, blocks and free boxes in their order.
func TestRule(t *testing.T) {
	o := nest.Order{Blocks: []api.Block{block("z", bx(0, 0, 0, 5, 5, 5)), block("a", bx(-20, 0, 0, 0, 20, 20))}, Kerf: 1, Wanted: []nest.Wanted{
		want("one", api.BedUp, 10, 10, 10), want("two", api.BedUp, 9, 10, 9), want("huge", api.BedAny, 21, 1, 1), want("three", api.BedUp, 5, 5, 5), want("four", api.BedUp, 8, 20, 20), want("bad", api.BedUp, 4, 4, 4),
	}}
	list, left, e := nest.Nest(o)
	if e != api.OK || len(list) != 2 || !slices.Equal(left, []string{"four", "huge"}) {
		t.Fatalf("Nest = %v, %v, %d", list, left, e)
	}
	if got := text(v(5, 5, 5), list[0].Plan); got != "p three" || len(list[0].Pieces) != 2 {
		t.Errorf("the first plan is %q", got)
	}
	if got := text(v(20, 20, 20), list[1].Plan); got != "x10/1(y10/1(z10/1(p one;o rest);o rest);y10/1(z9/1(p two;o rest);x15/1(y15/1(z4/1(p bad;o rest);o rest);o rest)))" {
		t.Errorf("the second plan is %q", got)
	}
	if list[1].Pieces[1].Id != "a.1" || list[1].Pieces[2].Id != "a.2" || list[1].Pieces[2].Box != bx(11, 0, 0, 20, 10, 9) {
		t.Errorf("the pieces are %v", list[1].Pieces)
	}
	// A box that is as long as the stone, or longer by more than the kerf.
	for length, fits := range map[int]bool{9: false, 10: true, 11: false, 12: false, 13: true} {
		o := nest.Order{Blocks: []api.Block{block("a", bx(0, 0, 0, length, 10, 10))}, Wanted: []nest.Wanted{want("s", api.BedAny, 10, 10, 10)}, Kerf: 2}
		if list, left, e := nest.Nest(o); (len(list) == 1) != fits || (len(left) == 0) != fits || e != api.OK {
			t.Errorf("Nest of %d = %v, %v, %d", length, list, left, e)
		}
	}
	if list, left, e := nest.Nest(nest.Order{}); len(list)+len(left) != 0 || e != api.OK {
		t.Errorf("Nest = %v, %v, %d", list, left, e)
	}
}

// P46.1: the least turn.
func TestFits(t *testing.T) {
	b := block("b", bx(-5, 0, 0, 5, 20, 30))
	for i, c := range []struct {
		w    nest.Wanted
		turn int
		e    api.Errno
	}{
		{want("s", api.BedAny, 10, 20, 30), 0, api.OK}, {want("s", api.BedAny, 20, 10, 30), 8, api.OK}, {want("s", api.BedUp, 20, 10, 30), 9, api.OK}, {want("s", api.BedEdge, 1, 1, 1), 4, api.OK}, {want("s", api.BedEdge, 10, 20, 30), 0, api.ErrNone}, {want("s", api.BedNatural, 10, 30, 20), 0, api.ErrNone}, {want("s", api.BedAny, 10, 30, 20), 4, api.OK}, {want("s", api.BedAny, 11, 20, 30), 0, api.ErrNone},
		{want("S", -1, 0, 0, 0), 0, api.ErrName}, {want("s", -1, 1, 1, 1), 0, api.ErrRange}, {want("s", 4, 1, 1, 1), 0, api.ErrRange}, {want("s", 0, 0, 1, 1), 0, api.ErrRange}, {want("s", 0, 1, top+1, 1), 0, api.ErrRange}, {want("s", 0, 1, 1, math.MinInt), 0, api.ErrRange},
	} {
		if turn, e := nest.Fits(b, c.w); turn != c.turn || e != c.e {
			t.Errorf("Fits %d = %d, %d", i, turn, e)
		}
	}
	for i, c := range []struct {
		b api.Block
		e api.Errno
	}{
		{block("B", api.Box{}), api.ErrName}, {block("b", api.Box{}), api.ErrInvalid}, {block("b", bx(0, 0, 0, top+1, 1, 1)), api.ErrRange}, {block("b", bx(-1, 0, 0, top, 1, 1)), api.ErrOutside},
	} {
		w := want("s", 0, 1, 1, 1)
		if c.e != api.ErrOutside {
			w.Bed = 9
		}
		if turn, e := nest.Fits(c.b, w); turn != 0 || e != c.e {
			t.Errorf("Fits in block %d = %d, %d", i, turn, e)
		}
	}
}

// P46.1, P1: each error, and which one comes first.
func TestErrors(t *testing.T) {
	for i, c := range []struct {
		change func(o *nest.Order)
		e      api.Errno
	}{
		{func(o *nest.Order) { o.Blocks = make([]api.Block, 17) }, api.ErrTooMany}, {func(o *nest.Order) { o.Wanted = make([]nest.Wanted, 65) }, api.ErrTooMany}, {func(o *nest.Order) { o.Blocks, o.Wanted = make([]api.Block, 16), make([]nest.Wanted, 64) }, api.ErrName},
		{func(o *nest.Order) { o.Blocks[1].Name, o.Blocks[0].Box = "C", api.Box{} }, api.ErrName}, {func(o *nest.Order) { o.Wanted[1].Name, o.Blocks[0].Box = strings.Repeat("s", 25), api.Box{} }, api.ErrName},
		{func(o *nest.Order) { o.Blocks[1].Box, o.Kerf = api.Box{}, -1 }, api.ErrInvalid}, {func(o *nest.Order) { o.Blocks[1].Box, o.Kerf = bx(0, 0, 0, 1, 1, top+1), -1 }, api.ErrRange},
		{func(o *nest.Order) { o.Wanted[1].Size.Z, o.Wanted[0].Name = 0, "t" }, api.ErrRange}, {func(o *nest.Order) { o.Wanted[1].Size.X, o.Wanted[0].Name = top+1, "t" }, api.ErrRange}, {func(o *nest.Order) { o.Wanted[1].Bed, o.Wanted[0].Name = 4, "t" }, api.ErrRange}, {func(o *nest.Order) { o.Wanted[1].Bed = -1 }, api.ErrRange},
		{func(o *nest.Order) { o.Kerf, o.Wanted[0].Name = -1, "t" }, api.ErrRange}, {func(o *nest.Order) { o.Kerf, o.Wanted[0].Name = 1001, "t" }, api.ErrRange}, {func(o *nest.Order) { o.Kerf = math.MinInt }, api.ErrRange},
		{func(o *nest.Order) { o.Wanted[0].Name, o.Blocks[0].Box = "t", bx(-1, 0, 0, top, 1, 1) }, api.ErrDuplicate}, {func(o *nest.Order) { o.Blocks[0].Name = "c" }, api.ErrDuplicate},
		{func(o *nest.Order) { o.Blocks[1].Box = bx(-1, 0, 0, top, 1, 1) }, api.ErrOutside},
	} {
		o := example(want("s", 0, 1, 1, 1), want("t", 0, 1, 1, 1))
		o.Blocks = append(o.Blocks, block("c", bx(0, 0, 0, 1, 1, 1)))
		c.change(&o)
		bad := []nest.Cutting{{Block: "?"}}
		list, left, e1 := nest.Nest(o)
		e2 := nest.Verify(o, bad)
		b, name, e3 := nest.Place(o, bad, "s")
		x, y, e4 := nest.Yield(o, bad)
		for k, e := range []api.Errno{nest.Check(o), e1, e2, e3, e4} {
			if e != c.e {
				t.Errorf("refusal %d, function %d: %d, want %d", i, k, e, c.e)
			}
		}
		if list != nil || left != nil || b != (api.Box{}) || name != "" || x+y != 0 {
			t.Errorf("refusal %d has results", i)
		}
	}
	o := example()
	o.Kerf = 1000
	if e := nest.Check(o); e != api.OK {
		t.Errorf("Check = %d", e)
	}
}

func copied(list []nest.Cutting) []nest.Cutting {
	var other []nest.Cutting
	for _, c := range list {
		other = append(other, nest.Cutting{Block: c.Block, Plan: slices.Clone(c.Plan), Pieces: slices.Clone(c.Pieces)})
	}
	return other
}

// P46.3, P1: what is not right.
func TestVerify(t *testing.T) {
	o := nest.Order{Blocks: []api.Block{block("a", bx(0, 0, 0, 10, 10, 10)), block("b", bx(20, 0, 0, 30, 10, 11))}, Kerf: 1, Wanted: []nest.Wanted{want("s", api.BedUp, 10, 4, 10), want("t", api.BedUp, 10, 3, 10), want("u", api.BedUp, 10, 10, 3), want("v", api.BedAny, 5, 5, 5)}}
	right, left, e := nest.Nest(o)
	if e != api.OK || len(right) != 2 || !slices.Equal(left, []string{}) && left != nil || len(right[0].Pieces) != 3 || len(right[1].Pieces) != 3 {
		t.Fatalf("Nest = %v, %v, %d", right, left, e)
	}
	turned := func(p api.Piece, turn int, size api.Vec) api.Piece {
		p.Pose, _ = orient.Place(turn, size, p.Box.Min)
		return p
	}
	for i, c := range []struct {
		change func(l []nest.Cutting) []nest.Cutting
		e      api.Errno
	}{
		{func(l []nest.Cutting) []nest.Cutting { return l }, api.OK}, {func(l []nest.Cutting) []nest.Cutting { return nil }, api.OK}, {func(l []nest.Cutting) []nest.Cutting { return []nest.Cutting{l[1], l[0]} }, api.OK},
		{func(l []nest.Cutting) []nest.Cutting { l[1].Block, l[0].Plan = "c", nil; return l }, api.ErrUnknown},
		{func(l []nest.Cutting) []nest.Cutting { l[1].Block, l[0].Plan = "a", nil; return l }, api.ErrDuplicate},
		{func(l []nest.Cutting) []nest.Cutting { l[1].Plan, l[0].Plan[0].Kerf = nil, 2; return l }, api.ErrInvalid},
		{func(l []nest.Cutting) []nest.Cutting { l[1].Plan[0].At = 10; return l }, api.ErrOutside},
		{func(l []nest.Cutting) []nest.Cutting { l[0].Plan[0].Kerf = 0; l[0].Plan[1].Name = "x"; return l }, api.ErrConflict},
		{func(l []nest.Cutting) []nest.Cutting { l[1].Plan[1].Name, l[0].Plan[1].Name = "x", "t"; return l }, api.ErrUnknown},
		{func(l []nest.Cutting) []nest.Cutting { l[1].Plan[1].Name, l[0].Pieces[0].Id = "t", ""; return l }, api.ErrDuplicate},
		{func(l []nest.Cutting) []nest.Cutting { l[1].Pieces[0].Id, l[0].Pieces = "", nil; return l }, api.ErrName},
		{func(l []nest.Cutting) []nest.Cutting { l[1].Pieces[2].Pose.Shift.X++; return l }, api.ErrInvalid},
		{func(l []nest.Cutting) []nest.Cutting {
			l[1].Pieces = l[1].Pieces[:2]
			l[0].Pieces[1] = turned(l[0].Pieces[1], 1, v(10, 4, 10))
			return l
		}, api.ErrInvalid},
		{func(l []nest.Cutting) []nest.Cutting { l[1].Pieces = nil; return l }, api.ErrInvalid},
		{func(l []nest.Cutting) []nest.Cutting { l[1].Pieces[2].Id = "b.3"; return l }, api.ErrInvalid},
		{func(l []nest.Cutting) []nest.Cutting {
			l[1].Pieces[1], l[1].Pieces[2] = l[1].Pieces[2], l[1].Pieces[1]
			return l
		}, api.ErrInvalid},
		{func(l []nest.Cutting) []nest.Cutting { l[0].Pieces[0].Box.Max.X++; return l }, api.ErrInvalid},
		{func(l []nest.Cutting) []nest.Cutting {
			l[0].Pieces = append(l[0].Pieces, api.Piece{Id: "x", Box: bx(50, 0, 0, 51, 1, 1), Pose: api.Pose{Shift: v(50, 0, 0)}})
			return l
		}, api.ErrInvalid},
		{func(l []nest.Cutting) []nest.Cutting {
			l[0].Pieces[1] = turned(l[0].Pieces[1], 4, v(10, 10, 4))
			return l
		}, api.ErrInvalid},
		{func(l []nest.Cutting) []nest.Cutting {
			l[0].Pieces[1] = turned(l[0].Pieces[1], 1, v(10, 4, 10))
			return l
		}, api.ErrConflict},
		{func(l []nest.Cutting) []nest.Cutting {
			l[0].Pieces[1] = turned(l[0].Pieces[1], 3, v(10, 4, 10))
			return l
		}, api.OK},
		{func(l []nest.Cutting) []nest.Cutting {
			l[0].Plan, l[0].Pieces = append(l[0].Plan[:2], api.Node{}), l[0].Pieces[:2]
			return l[:1]
		}, api.OK},
	} {
		l := c.change(copied(right))
		b, name, e1 := nest.Place(o, l, "s")
		_, _, e2 := nest.Yield(o, l)
		if e := nest.Verify(o, l); e != c.e || e2 != c.e || c.e != api.OK && (e1 != c.e || b != (api.Box{}) || name != "") {
			t.Errorf("Verify %d = %d, %d, %d, want %d", i, e, e1, e2, c.e)
		}
	}
	if b, name, e := nest.Place(o, right, "x"); b != (api.Box{}) || name != "" || e != api.ErrUnknown {
		t.Errorf("Place = %v, %q, %d", b, name, e)
	}
	if b, name, e := nest.Place(o, right, "u"); b != bx(20, 0, 0, 30, 10, 3) || name != "b" || e != api.OK {
		t.Errorf("Place = %v, %q, %d", b, name, e)
	}
	if stones, blocks, e := nest.Yield(o, right); stones != 400+300+300+125 || blocks != 2100 || e != api.OK {
		t.Errorf("Yield = %d, %d, %d", stones, blocks, e)
	}
}

// simple is the rule, with the free boxes of blocks alone.
func simple(o nest.Order) (map[string]api.Box, []string) {
	free := map[string][]api.Box{}
	for _, b := range o.Blocks {
		free[b.Name] = []api.Box{b.Box}
	}
	places := map[string]api.Box{}
	var left []string
stones:
	for _, w := range o.Wanted {
		turns, _ := orient.List(w.Bed)
		for _, b := range o.Blocks {
			for i, f := range free[b.Name] {
				size := box.Size(f)
				for _, turn := range turns {
					s, _ := orient.Size(turn, w.Size)
					fits := func(n, side int) bool { return n == side || n > side+o.Kerf }
					if !fits(size.X, s.X) || !fits(size.Y, s.Y) || !fits(size.Z, s.Z) {
						continue
					}
					at := f.Min
					var rests []api.Box
					add := func(r api.Box) {
						if box.Check(r) == api.OK {
							rests = append(rests, r)
						}
					}
					add(bx(at.X+s.X+o.Kerf, at.Y, at.Z, f.Max.X, f.Max.Y, f.Max.Z))
					add(bx(at.X, at.Y+s.Y+o.Kerf, at.Z, at.X+s.X, f.Max.Y, f.Max.Z))
					add(bx(at.X, at.Y, at.Z+s.Z+o.Kerf, at.X+s.X, at.Y+s.Y, f.Max.Z))
					free[b.Name] = slices.Concat(free[b.Name][:i], rests, free[b.Name][i+1:])
					places[w.Name] = bx(at.X, at.Y, at.Z, at.X+s.X, at.Y+s.Y, at.Z+s.Z)
					continue stones
				}
			}
		}
		left = append(left, w.Name)
	}
	slices.Sort(left)
	return places, left
}

// P46.2 to P46.5
func TestProperties(t *testing.T) {
	r := rand.New(rand.NewSource(1))
	for range 500 {
		o := nest.Order{Kerf: r.Intn(3)}
		for i := range r.Intn(4) {
			o.Blocks = append(o.Blocks, block("b"+strconv.Itoa(9-i), bx(100*i, -5, 3, 100*i+5+r.Intn(20), r.Intn(20), 8+r.Intn(20))))
		}
		for i := range r.Intn(12) {
			o.Wanted = append(o.Wanted, want("s"+strconv.Itoa(i), r.Intn(4), 1+r.Intn(12), 1+r.Intn(12), 1+r.Intn(12)))
		}
		list, left, e := nest.Nest(o)
		places, others := simple(o)
		if e != api.OK || nest.Verify(o, list) != api.OK || !slices.Equal(left, others) {
			t.Fatalf("Nest(%v) = %v, %v, %d; %d", o, list, left, e, nest.Verify(o, list))
		}
		for name, want := range places {
			if got, _, e := nest.Place(o, list, name); got != want || e != api.OK {
				t.Fatalf("Nest(%v) = %v: the place of %q is %v, want %v", o, list, name, got, want)
			}
		}
		for _, c := range list {
			size := box.Size(c.Pieces[0].Box)
			normal, _ := guillotine.Normal(size, c.Plan)
			leaves, _ := guillotine.Leaves(size, c.Plan)
			if !reflect.DeepEqual(normal, c.Plan) || slices.ContainsFunc(leaves, func(l guillotine.Leaf) bool {
				return l.Kind != api.Product && (l.Kind != api.Offcut || l.Name != nest.Rest)
			}) {
				t.Fatalf("the plan of %v is %v", c.Block, c.Plan)
			}
		}
		if stones, blocks, e := nest.Yield(o, list); stones > blocks || e != api.OK {
			t.Fatalf("Yield = %d, %d, %d", stones, blocks, e)
		}
	}
}
