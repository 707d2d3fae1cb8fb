package slab_test

import (
	"math"
	"math/rand"
	"reflect"
	"slices"
	"strings"
	"testing"

	"gangsaw/api"
	"gangsaw/box"
	"gangsaw/codec"
	"gangsaw/slab"
)

const top = api.MaxCoord

func bx(x, y, z, x2, y2, z2 int) api.Box {
	return api.Box{Min: api.Vec{X: x, Y: y, Z: z}, Max: api.Vec{X: x2, Y: y2, Z: z2}}
}

func block() api.Block { return api.Block{Name: "b1", Box: bx(0, 0, 0, 100, 50, 40)} }

func sawing(axis, thickness, kerf, first int) slab.Sawing {
	return slab.Sawing{Axis: axis, Thickness: thickness, Kerf: kerf, First: first}
}

func numbered(name, block string, number int) api.Slab {
	return api.Slab{Name: name, Block: block, Number: number, Box: bx(number, 0, 0, number+1, 1, 1)}
}

// P30.1, P30.2: the examples, and the other axes.
func TestMake(t *testing.T) {
	one := func(name string, number int, b api.Box) api.Slab {
		return api.Slab{Name: name, Block: "b1", Number: number, Box: b}
	}
	for i, c := range []struct {
		s     slab.Sawing
		slabs []api.Slab
		left  []api.Box
	}{
		{sawing(0, 30, 5, 1), []api.Slab{one("b1_1", 1, bx(0, 0, 0, 30, 50, 40)), one("b1_2", 2, bx(35, 0, 0, 65, 50, 40)), one("b1_3", 3, bx(70, 0, 0, 100, 50, 40))}, nil},
		{sawing(0, 28, 5, 1), []api.Slab{one("b1_1", 1, bx(0, 0, 0, 28, 50, 40)), one("b1_2", 2, bx(33, 0, 0, 61, 50, 40)), one("b1_3", 3, bx(66, 0, 0, 94, 50, 40))}, []api.Box{bx(99, 0, 0, 100, 50, 40)}},
		{sawing(1, 50, 0, 99), []api.Slab{one("b1_99", 99, bx(0, 0, 0, 100, 50, 40))}, nil},
		{sawing(2, 20, 19, 1000000), []api.Slab{one("b1_1000000", 1000000, bx(0, 0, 0, 100, 50, 20))}, []api.Box{bx(0, 0, 39, 100, 50, 40)}},
		{sawing(2, 20, 20, 1000000), []api.Slab{one("b1_1000000", 1000000, bx(0, 0, 0, 100, 50, 20))}, nil},
		{sawing(2, 20, 0, 7), []api.Slab{one("b1_7", 7, bx(0, 0, 0, 100, 50, 20)), one("b1_8", 8, bx(0, 0, 20, 100, 50, 40))}, nil},
	} {
		slabs, left, e := slab.Make(block(), c.s)
		if !reflect.DeepEqual(slabs, c.slabs) || !slices.Equal(left, c.left) || e != api.OK {
			t.Errorf("Make %d = %v, %v, %d", i, slabs, left, e)
		}
	}
	for length, want := range map[int]int{1: 0, 29: 0, 30: 1, 64: 1, 65: 2, 99: 2, 100: 3, 2 * top: 57143} {
		if n, e := slab.Count(sawing(0, 30, 5, 1), length); n != want || e != api.OK {
			t.Errorf("Count(%d) = %d, %d", length, n, e)
		}
	}
	shifted := api.Block{Name: "b1", Box: bx(-top, -5, 7, 10-top, 5, 9)}
	slabs, left, e := slab.Make(shifted, sawing(0, 6, 1, 3))
	if !reflect.DeepEqual(slabs, []api.Slab{one("b1_3", 3, bx(-top, -5, 7, 6-top, 5, 9))}) || !slices.Equal(left, []api.Box{bx(7-top, -5, 7, 10-top, 5, 9)}) || e != api.OK {
		t.Errorf("Make = %v, %v, %d", slabs, left, e)
	}
}

// P30.1, P30.2, P1
func TestSawingErrors(t *testing.T) {
	long := strings.Repeat("a", 22)
	for i, c := range []struct {
		b api.Block
		s slab.Sawing
		e api.Errno
	}{
		{api.Block{}, sawing(-1, 1, 0, 1), api.ErrRange}, {api.Block{}, sawing(3, 1, 0, 1), api.ErrRange},
		{api.Block{}, sawing(0, 0, 0, 1), api.ErrRange}, {api.Block{}, sawing(0, 1001, 0, 1), api.ErrRange}, {api.Block{}, sawing(0, math.MinInt, 0, 1), api.ErrRange},
		{api.Block{}, sawing(0, 1, -1, 1), api.ErrRange}, {api.Block{}, sawing(0, 1, 1001, 1), api.ErrRange}, {api.Block{}, sawing(0, 1, math.MaxInt, 1), api.ErrRange},
		{api.Block{}, sawing(0, 1, 0, 0), api.ErrRange}, {api.Block{}, sawing(0, 1, 0, 1000001), api.ErrRange}, {api.Block{}, sawing(0, 1, 0, math.MaxInt), api.ErrRange},
		{api.Block{Name: "B"}, sawing(0, 1, 0, 1), api.ErrName},
		{api.Block{Name: "b"}, sawing(0, 1, 0, 1), api.ErrInvalid},
		{api.Block{Name: "b", Box: bx(0, 0, 0, 1, 1, top+1)}, sawing(0, 1, 0, 1), api.ErrRange},
		{api.Block{Name: long, Box: bx(0, 0, 0, 1, 1, 1)}, sawing(0, 2, 0, 1000000), api.ErrNone},
		{api.Block{Name: long, Box: bx(0, 0, 0, 257, 1, 1)}, sawing(0, 1, 0, 1000000), api.ErrTooMany},
		{api.Block{Name: "b", Box: bx(0, 0, 0, 256, 1, 1)}, sawing(0, 1, 0, 1), api.OK},
		{api.Block{Name: long, Box: bx(0, 0, 0, 2, 1, 1)}, sawing(0, 1, 0, 1000000), api.ErrRange},
		{api.Block{Name: long, Box: bx(0, 0, 0, 1, 1, 1)}, sawing(0, 1, 0, 9), api.OK},
		{api.Block{Name: long, Box: bx(0, 0, 0, 2, 1, 1)}, sawing(0, 1, 0, 9), api.ErrName},
	} {
		slabs, left, e := slab.Make(c.b, c.s)
		if e != c.e || e != api.OK && (slabs != nil || left != nil) {
			t.Errorf("Make %d = %v, %v, %d, want %d", i, slabs, left, e, c.e)
		}
		if i < 11 {
			_, f := slab.Count(c.s, 0)
			if slab.Check(c.s) != api.ErrRange || f != api.ErrRange {
				t.Errorf("Check %d", i)
			}
		}
	}
	if e := slab.Check(sawing(2, 1000, 1000, 1000000)); e != api.OK {
		t.Errorf("Check = %d", e)
	}
	for _, length := range []int{0, -1, 2*top + 1, math.MaxInt, math.MinInt} {
		if n, e := slab.Count(sawing(0, 30, 5, 1), length); n != 0 || e != api.ErrRange {
			t.Errorf("Count(%d) = %d, %d", length, n, e)
		}
	}
}

// P30.3, P1
func TestValid(t *testing.T) {
	with := func(change func(list []api.Slab)) []api.Slab {
		list := []api.Slab{numbered("x", "b", 1), numbered("y", "b", 3), numbered("z", "b", 4)}
		change(list)
		return list
	}
	for i, c := range []struct {
		list []api.Slab
		e    api.Errno
	}{
		{nil, api.OK}, {with(func([]api.Slab) {}), api.OK},
		{with(func(s []api.Slab) { s[0].Number, s[2].Number, s[1].Front = math.MinInt, math.MaxInt, make([]int, 300) }), api.OK},
		{make([]api.Slab, 257), api.ErrTooMany},
		{with(func(s []api.Slab) { s[2].Name, s[0].Box = "Z", api.Box{} }), api.ErrName},
		{with(func(s []api.Slab) { s[2].Block, s[0].Box = "", api.Box{} }), api.ErrName},
		{with(func(s []api.Slab) { s[1].Box, s[2].Box, s[0].Block = bx(0, 0, 0, top+1, 1, 0), api.Box{}, "c" }), api.ErrRange},
		{with(func(s []api.Slab) { s[2].Box, s[1].Box, s[0].Block = bx(0, 0, 0, top+1, 1, 0), api.Box{}, "c" }), api.ErrInvalid},
		{with(func(s []api.Slab) { s[2].Block, s[1].Number = "c", 1 }), api.ErrConflict},
		{with(func(s []api.Slab) { s[1].Number, s[2].Box = 1, s[1].Box }), api.ErrDuplicate},
		{with(func(s []api.Slab) { s[2].Number, s[2].Box = 2, s[1].Box }), api.ErrDuplicate},
		{with(func(s []api.Slab) { s[2].Name, s[2].Box = "x", s[0].Box }), api.ErrDuplicate},
		{with(func(s []api.Slab) { s[2].Box = s[0].Box }), api.ErrOverlap},
		{with(func(s []api.Slab) { s[2].Box = bx(0, 0, 0, 2, 1, 1) }), api.ErrOverlap},
		{with(func(s []api.Slab) { s[2].Box = bx(0, 0, 0, 1, 1, 1) }), api.OK},
	} {
		if e := slab.Valid(c.list); e != c.e {
			t.Errorf("Valid %d = %d, want %d", i, e, c.e)
		}
	}
}

// P30.3: the first slab of the same block with the next number.
func TestNext(t *testing.T) {
	list := []api.Slab{numbered("x", "b", 1), numbered("y", "c", 2), numbered("z", "b", 2), numbered("w", "b", 2)}
	list[2].Front, list[2].Back = []int{1}, []int{2}
	got, e := slab.Next(list, api.Slab{Block: "b", Number: 1})
	if !reflect.DeepEqual(got, list[2]) || e != api.OK {
		t.Errorf("Next = %v, %d", got, e)
	}
	got.Front[0], got.Back[0] = 7, 7
	if list[2].Front[0] != 1 || list[2].Back[0] != 2 {
		t.Error("Next shares memory with its argument")
	}
	list[0].Number = math.MinInt
	for i, s := range []api.Slab{{Block: "b", Number: 2}, {Block: "d", Number: 1}, {Block: "b", Number: math.MaxInt}, {Block: "c", Number: 2}} {
		if got, e := slab.Next(list, s); !reflect.DeepEqual(got, api.Slab{}) || e != api.ErrNone {
			t.Errorf("Next %d = %v, %d", i, got, e)
		}
	}
	if _, e := slab.Next(make([]api.Slab, 257), api.Slab{Number: -1}); e != api.ErrTooMany {
		t.Errorf("Next = %d", e)
	}
	if _, e := slab.Next(make([]api.Slab, 256), api.Slab{Number: -1}); e != api.OK {
		t.Errorf("Next = %d", e)
	}
}

// P30.3
func TestRuns(t *testing.T) {
	s := numbered
	list := []api.Slab{s("x", "b", 4), s("y", "b", 2), s("z", "a", 3), s("x", "b", 1), s("u", "B", math.MaxInt), s("v", "B", math.MinInt)}
	want := [][]api.Slab{{list[5]}, {list[4]}, {list[2]}, {list[3], list[1]}, {list[0]}}
	got, e := slab.Runs(list)
	if !reflect.DeepEqual(got, want) || e != api.OK {
		t.Errorf("Runs = %v, %d", got, e)
	}
	list[2].Front = []int{1}
	got, _ = slab.Runs(list)
	got[2][0].Front[0] = 5
	if list[2].Front[0] != 1 || list[0].Number != 4 {
		t.Error("Runs shares memory with its argument")
	}
	if got, e := slab.Runs(nil); len(got) != 0 || e != api.OK {
		t.Errorf("Runs = %v, %d", got, e)
	}
	if got, e := slab.Runs(append(list, s("q", "b", 2))); got != nil || e != api.ErrDuplicate {
		t.Errorf("Runs = %v, %d", got, e)
	}
	if _, e := slab.Runs(make([]api.Slab, 257)); e != api.ErrTooMany {
		t.Errorf("Runs = %d", e)
	}
}

// P30.4
func TestTurn(t *testing.T) {
	s := api.Slab{Name: "?", Block: "b", Number: -1, Box: bx(1, 2, 3, 0, 0, 0), Colour: 5, Front: []int{1, 2}, Back: []int{3}}
	turned := slab.Turn(s)
	want := s
	want.Front, want.Back = []int{3}, []int{1, 2}
	if !reflect.DeepEqual(turned, want) || !reflect.DeepEqual(slab.Turn(turned), s) {
		t.Errorf("Turn = %v", turned)
	}
	turned.Front[0], turned.Back[0] = 9, 9
	if s.Front[0] != 1 || s.Back[0] != 3 {
		t.Error("Turn shares memory with its argument")
	}
	for _, c := range []struct {
		b    api.Box
		want int64
		e    api.Errno
	}{
		{bx(0, 0, 0, 30, 50, 40), 2000, api.OK}, {bx(0, 0, 0, 50, 30, 40), 2000, api.OK}, {bx(0, 0, 0, 40, 50, 30), 2000, api.OK}, {bx(0, 0, 0, 5, 5, 9), 45, api.OK},
		{bx(-top, -top, 0, top, top, 1), 4000000000000, api.OK}, {api.Box{}, 0, api.ErrInvalid}, {bx(0, 0, 0, 1, 1, top+1), 0, api.ErrRange},
	} {
		if got, e := slab.Area(api.Slab{Box: c.b}); got != c.want || e != c.e {
			t.Errorf("Area of %v = %d, %d", c.b, got, e)
		}
	}
}

func whole() api.Slab {
	return api.Slab{Name: "b_1", Block: "b", Number: 1, Box: bx(-1, -2, -3, 1, 2, 3), Colour: -7, Front: []int{5, math.MinInt}, Back: []int{math.MaxInt}}
}

func num(list ...int64) codec.Value {
	var items []codec.Value
	for _, n := range list {
		items = append(items, codec.Num(n))
	}
	return codec.Seq(items...)
}

// parts are the items of the encoding of whole.
func parts() []codec.Value {
	return []codec.Value{codec.Str("b_1"), codec.Str("b"), codec.Num(1), num(-1, -2, -3, 1, 2, 3), codec.Num(-7), num(5, math.MinInt64), num(math.MaxInt64)}
}

// P30.5, P30.6
func TestEncoding(t *testing.T) {
	want, _ := codec.Encode(codec.Seq(parts()...))
	got, e := slab.Encode(whole())
	if got != want || e != api.OK {
		t.Errorf("Encode = %q, %d", got, e)
	}
	back, e := slab.Decode(got)
	if !reflect.DeepEqual(back, whole()) || e != api.OK {
		t.Errorf("Decode = %v, %d", back, e)
	}
	bare := api.Slab{Name: "a", Block: "b", Number: slab.MaxNumber, Box: bx(0, 0, 0, 1, 1, 1), Front: make([]int, slab.MaxCode)}
	text, e := slab.Encode(bare)
	if back, f := slab.Decode(text); !reflect.DeepEqual(back, bare) || e != api.OK || f != api.OK {
		t.Errorf("Decode = %v, %d, %d", back, e, f)
	}
}

// P30.5, P1
func TestEncodingErrors(t *testing.T) {
	for i, c := range []struct {
		change func(s *api.Slab)
		e      api.Errno
	}{
		{func(s *api.Slab) { s.Name, s.Box = "A", api.Box{} }, api.ErrName},
		{func(s *api.Slab) { s.Block, s.Box = "", api.Box{} }, api.ErrName},
		{func(s *api.Slab) { s.Box, s.Number = api.Box{}, 0 }, api.ErrInvalid},
		{func(s *api.Slab) { s.Box.Min.X, s.Front = -top-1, make([]int, 257) }, api.ErrRange},
		{func(s *api.Slab) { s.Number, s.Front = 0, make([]int, 257) }, api.ErrRange},
		{func(s *api.Slab) { s.Number, s.Front = 1000001, make([]int, 257) }, api.ErrRange},
		{func(s *api.Slab) { s.Front = make([]int, 257) }, api.ErrTooMany},
		{func(s *api.Slab) { s.Back = make([]int, 257) }, api.ErrTooMany},
	} {
		s := whole()
		c.change(&s)
		if got, e := slab.Encode(s); got != "" || e != c.e {
			t.Errorf("Encode %d = %q, %d", i, got, e)
		}
		p := parts()
		p[0], p[1], p[2] = codec.Str(s.Name), codec.Str(s.Block), codec.Num(int64(s.Number))
		p[3] = num(int64(s.Box.Min.X), int64(s.Box.Min.Y), int64(s.Box.Min.Z), int64(s.Box.Max.X), int64(s.Box.Max.Y), int64(s.Box.Max.Z))
		p[5], p[6] = num(make([]int64, len(s.Front))...), num(make([]int64, len(s.Back))...)
		text, _ := codec.Encode(codec.Seq(p...))
		if got, e := slab.Decode(text); !reflect.DeepEqual(got, api.Slab{}) || e != api.ErrInvalid {
			t.Errorf("Decode %d = %v, %d", i, got, e)
		}
	}
	for i := range parts() {
		for _, other := range []codec.Value{codec.Num(1), codec.Str("a"), num(1, 2, 3, 4, 5), num(1, 2, 3, 4, 5, 6, 7), codec.Seq(codec.Str("a")), codec.Seq(num())} {
			p := parts()
			if other.Kind == p[i].Kind && (other.Kind != codec.List || i != 3 && other.Items[0].Kind == codec.Number) {
				continue
			}
			p[i] = other
			text, _ := codec.Encode(codec.Seq(p...))
			if got, e := slab.Decode(text); !reflect.DeepEqual(got, api.Slab{}) || e != api.ErrSyntax {
				t.Errorf("Decode with another item %d: %v, %d", i, got, e)
			}
		}
	}
	text, _ := codec.Encode(codec.Seq(parts()...))
	less, _ := codec.Encode(codec.Seq(parts()[:6]...))
	more, _ := codec.Encode(codec.Seq(append(parts(), num())...))
	single, _ := codec.Encode(codec.Num(7))
	for i, s := range []string{"", text + "n\x00", text[:len(text)-1], less, more, single, strings.Repeat("l", codec.MaxBytes+1)} {
		if _, e := slab.Decode(s); e != api.ErrSyntax {
			t.Errorf("Decode of string %d: %d", i, e)
		}
	}
}

// P30.6
func TestProperties(t *testing.T) {
	r := rand.New(rand.NewSource(1))
	for range 3000 {
		b := block()
		b.Box = bx(0, 0, 0, 1+r.Intn(30), 1+r.Intn(30), 1+r.Intn(30))
		s := sawing(r.Intn(3), 1+r.Intn(12), r.Intn(4), 1+r.Intn(5))
		slabs, left, e := slab.Make(b, s)
		size := box.Size(b.Box)
		length := []int{size.X, size.Y, size.Z}[s.Axis]
		if e == api.ErrNone {
			if length >= s.Thickness {
				t.Fatalf("Make(%v, %v)", b, s)
			}
			continue
		}
		whole, _ := box.Volume(b.Box)
		face := whole / int64(length)
		sum := int64(0)
		for _, x := range slabs {
			n, _ := box.Volume(x.Box)
			sum += n
		}
		end := len(slabs)*(s.Thickness+s.Kerf) - s.Kerf
		kerfs := (len(slabs)-1)*s.Kerf + min(s.Kerf, length-end)
		for _, x := range left {
			n, _ := box.Volume(x)
			sum += n
			if n/face >= int64(s.Thickness) {
				t.Fatalf("what is left is as long as a slab: %v, %v", s, left)
			}
		}
		runs, _ := slab.Runs(slabs)
		if slab.Valid(slabs) != api.OK || sum+int64(kerfs)*face != whole || len(runs) != 1 || len(left) > 1 {
			t.Fatalf("Make(%v, %v) = %v, %v", b, s, slabs, left)
		}
		for i, x := range slabs[1:] {
			if next, e := slab.Next(slabs, slabs[i]); !reflect.DeepEqual(next, x) || e != api.OK {
				t.Fatalf("Next = %v, %d", next, e)
			}
		}
	}
}
