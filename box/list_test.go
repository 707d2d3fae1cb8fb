package box_test

import (
	"math/rand"
	"slices"
	"testing"

	"gangsaw/api"
	"gangsaw/box"
)

// P6.4
func TestRest(t *testing.T) {
	b := cube(0, 4)
	for _, c := range []struct{ list, want []api.Box }{
		{nil, []api.Box{b}},
		{[]api.Box{cube(9, 10)}, []api.Box{b}},
		{[]api.Box{b}, nil},
		{[]api.Box{b, cube(1, 2)}, nil},
		{[]api.Box{bx(0, 0, 0, 4, 4, 2), bx(0, 0, 2, 4, 4, 4)}, nil},
		{[]api.Box{bx(0, 0, 0, 4, 4, 2), bx(0, 0, 0, 4, 3, 4)}, []api.Box{bx(0, 3, 2, 4, 4, 4)}},
		{[]api.Box{bx(1, 0, 0, 2, 4, 4), bx(0, 1, 0, 4, 2, 4)}, []api.Box{
			bx(0, 0, 0, 1, 1, 4), bx(0, 2, 0, 1, 4, 4), bx(2, 0, 0, 4, 1, 4), bx(2, 2, 0, 4, 4, 4),
		}},
		{[]api.Box{bx(0, 1, 0, 4, 2, 4), bx(1, 0, 0, 2, 4, 4)}, []api.Box{
			bx(0, 0, 0, 1, 1, 4), bx(2, 0, 0, 4, 1, 4), bx(0, 2, 0, 1, 4, 4), bx(2, 2, 0, 4, 4, 4),
		}},
	} {
		if got, e := box.Rest(b, c.list); !slices.Equal(got, c.want) || e != api.OK {
			t.Errorf("Rest(b, %v) = %v, %d, want %v", c.list, got, e, c.want)
		}
	}
}

// sieve are boxes that leave 4096 parts of the cube from 0 to 1000: 63 plates make 64 layers, and each of 21 rods adds 3 parts to each layer.
func sieve() []api.Box {
	var list []api.Box
	for i := range 63 {
		list = append(list, bx(0, 0, 10*i+8, 1000, 1000, 10*i+9))
	}
	for i := range 21 {
		list = append(list, bx(10*i+5, 10*i+5, 0, 10*i+6, 10*i+6, 1000))
	}
	return list
}

// P6.4: MaxPieces holds behind each box of the list.
func TestRestOfManyPieces(t *testing.T) {
	b := cube(0, 1000)
	if got, e := box.Rest(b, sieve()); len(got) != box.MaxPieces || e != api.OK {
		t.Fatalf("Rest: %d pieces, %d", len(got), e)
	}
	// This one divides a part into two.
	last := bx(0, 5, 3, 5, 6, 4)
	if got, e := box.Rest(b, append(sieve(), last)); len(got) != 0 || e != api.ErrTooMany {
		t.Errorf("Rest with one piece too many: %d pieces, %d", len(got), e)
	}
	if got, e := box.Rest(b, append(sieve(), last, b)); len(got) != 0 || e != api.ErrTooMany {
		t.Errorf("Rest with one piece too many for a while: %d pieces, %d", len(got), e)
	}
	if got, e := box.Rest(b, append(sieve(), b, last)); len(got) != 0 || e != api.OK {
		t.Errorf("Rest of which nothing is left: %d pieces, %d", len(got), e)
	}
	if got, e := box.Rest(b, append(sieve(), bx(0, 5, 3, 5, 6, 20))); len(got) != box.MaxPieces-1 || e != api.OK {
		t.Errorf("Rest of which a part is taken: %d pieces, %d", len(got), e)
	}
}

// P6.5
func TestGap(t *testing.T) {
	b := cube(0, 4)
	for _, c := range []struct {
		list []api.Box
		want api.Vec
		e    api.Errno
	}{
		{nil, v(0, 0, 0), api.OK},
		{[]api.Box{bx(0, 0, 0, 4, 4, 1), bx(0, 0, 1, 3, 4, 4)}, v(3, 0, 1), api.OK},
		{[]api.Box{bx(0, 0, 1, 3, 4, 4), bx(0, 0, 0, 4, 4, 1)}, v(3, 0, 1), api.OK},
		{[]api.Box{cube(1, 9)}, v(0, 0, 0), api.OK},
		{[]api.Box{cube(-9, 1)}, v(1, 0, 0), api.OK},
		{[]api.Box{bx(0, 0, 0, 9, 2, 2)}, v(0, 2, 0), api.OK},
		{[]api.Box{bx(0, 0, 0, 9, 9, 2)}, v(0, 0, 2), api.OK},
		{[]api.Box{bx(0, 0, 0, 2, 4, 4), bx(3, 0, 0, 4, 4, 4)}, v(2, 0, 0), api.OK},
		{[]api.Box{cube(-1, 5), cube(1, 2)}, v(0, 0, 0), api.ErrNone},
		{[]api.Box{b}, v(0, 0, 0), api.ErrNone},
		{[]api.Box{bx(0, 0, 0, 2, 4, 4), bx(2, 0, 0, 4, 4, 4)}, v(0, 0, 0), api.ErrNone},
		{[]api.Box{bx(1, 0, 0, 9, 9, 9), bx(0, 0, 0, 2, 9, 3), bx(0, 0, 3, 1, 3, 9)}, v(0, 3, 3), api.OK},
		{[]api.Box{cube(4, 9), cube(-9, 0)}, v(0, 0, 0), api.OK},
	} {
		if got, e := box.Gap(b, c.list); got != c.want || e != c.e {
			t.Errorf("Gap(b, %v) = %v, %d, want %v, %d", c.list, got, e, c.want, c.e)
		}
	}
	if got, e := box.Gap(everything(), []api.Box{bx(-top, -top, -top, top, top, top-1)}); got != v(-top, -top, top-1) || e != api.OK {
		t.Errorf("Gap = %v, %d", got, e)
	}
}

// P6.5
func TestTotal(t *testing.T) {
	for _, c := range []struct {
		list []api.Box
		want int64
	}{
		{nil, 0},
		{[]api.Box{}, 0},
		{[]api.Box{cube(0, 4)}, 64},
		{[]api.Box{cube(0, 4), cube(2, 6), cube(0, 1)}, 120},
		{[]api.Box{cube(0, 4), cube(0, 4), cube(0, 4)}, 64},
		{[]api.Box{cube(-5, -4), cube(7, 9)}, 9},
		{[]api.Box{bx(0, 0, 0, 1, 1, 9), bx(0, 0, 0, 1, 9, 1), bx(0, 0, 0, 9, 1, 1)}, 25},
		{[]api.Box{everything(), cube(0, 5)}, 8 * top * top * top},
		{[]api.Box{bx(-top, -top, -top, 0, top, top), bx(-1, -top, -top, top, top, top)}, 8 * top * top * top},
	} {
		if got, e := box.Total(c.list); got != c.want || e != api.OK {
			t.Errorf("Total(%v) = %d, %d, want %d", c.list, got, e, c.want)
		}
	}
}

// P6.5
func TestClash(t *testing.T) {
	a, b, c, d := cube(0, 2), cube(2, 4), cube(3, 5), cube(1, 9)
	for _, x := range []struct {
		list []api.Box
		i, k int
		e    api.Errno
	}{
		{nil, 0, 0, api.ErrNone},
		{[]api.Box{a}, 0, 0, api.ErrNone},
		{[]api.Box{a, b}, 0, 0, api.ErrNone},
		{[]api.Box{a, a}, 0, 1, api.OK},
		{[]api.Box{a, b, c}, 1, 2, api.OK},
		{[]api.Box{c, a, b}, 0, 2, api.OK},
		{[]api.Box{b, c, a, d}, 0, 1, api.OK},
		{[]api.Box{a, c, b, d}, 0, 3, api.OK},
		{[]api.Box{d, c, b, a}, 0, 1, api.OK},
		{[]api.Box{a, b, cube(9, 10), cube(20, 30), cube(25, 26), cube(28, 29)}, 3, 4, api.OK},
	} {
		if i, k, e := box.Clash(x.list); i != x.i || k != x.k || e != x.e {
			t.Errorf("Clash(%v) = %d, %d, %d, want %d, %d, %d", x.list, i, k, e, x.i, x.k, x.e)
		}
	}
}

// P6.5
func TestPartition(t *testing.T) {
	b := cube(0, 4)
	low, high := bx(0, 0, 0, 4, 4, 1), bx(0, 0, 1, 4, 4, 4)
	for _, c := range []struct {
		list []api.Box
		want api.Errno
	}{
		{[]api.Box{b}, api.OK},
		{[]api.Box{low, high}, api.OK},
		{[]api.Box{high, low}, api.OK},
		{[]api.Box{low, bx(0, 0, 1, 3, 4, 4), bx(3, 0, 1, 4, 1, 4), bx(3, 1, 1, 4, 4, 4)}, api.OK},
		{nil, api.ErrNone},
		{[]api.Box{low}, api.ErrNone},
		{[]api.Box{low, bx(0, 0, 1, 3, 4, 4), bx(3, 0, 1, 4, 1, 4), bx(3, 1, 1, 4, 4, 3)}, api.ErrNone},
		{[]api.Box{low, high, low}, api.ErrOverlap},
		{[]api.Box{b, b}, api.ErrOverlap},
		{[]api.Box{low, low}, api.ErrOverlap},
		{[]api.Box{low, bx(0, 0, 0, 4, 4, 4)}, api.ErrOverlap},
		{[]api.Box{cube(0, 5)}, api.ErrOutside},
		{[]api.Box{cube(-1, 4)}, api.ErrOutside},
		{[]api.Box{low, high, cube(4, 5)}, api.ErrOutside},
		{[]api.Box{low, low, cube(4, 5)}, api.ErrOutside},
		{[]api.Box{bx(0, 0, 0, 4, 4, 5), low}, api.ErrOutside},
	} {
		if e := box.Partition(b, c.list); e != c.want {
			t.Errorf("Partition(b, %v) = %d, want %d", c.list, e, c.want)
		}
	}
	all := everything()
	if e := box.Partition(all, slices.Repeat([]api.Box{all}, box.MaxBoxes)); e != api.ErrOverlap {
		t.Errorf("Partition into the same boxes: %d", e)
	}
	if e := box.Partition(all, []api.Box{bx(-top, -top, -top, 0, top, top), bx(0, -top, -top, top, top, top)}); e != api.OK {
		t.Errorf("Partition into halves: %d", e)
	}
}

// P1: lists of boxes, in the order of the table: the length, the box, then the boxes of the list in order.
func TestRefusalsOfLists(t *testing.T) {
	good, bad, far := cube(0, 9), cube(9, 0), cube(0, top+1)
	long := slices.Repeat([]api.Box{good}, box.MaxBoxes+1)
	longBad := slices.Repeat([]api.Box{far}, box.MaxBoxes+1)
	for _, c := range []struct {
		b    api.Box
		list []api.Box
		want api.Errno
	}{
		{good, long, api.ErrTooMany},
		{bad, long, api.ErrTooMany},
		{far, longBad, api.ErrTooMany},
		{bad, []api.Box{far}, api.ErrInvalid},
		{far, []api.Box{bad}, api.ErrRange},
		{good, []api.Box{bad, far}, api.ErrInvalid},
		{good, []api.Box{far, bad}, api.ErrRange},
		{good, []api.Box{good, good, bad}, api.ErrInvalid},
		{good, []api.Box{good, cube(20, 30), far}, api.ErrRange},
	} {
		checkListRefusal(t, c.b, c.list, c.want)
	}
	for _, c := range refusals() {
		checkListRefusal(t, good, []api.Box{good, c.b}, c.e)
		checkListRefusal(t, c.b, nil, c.e)
	}
}

func checkListRefusal(t *testing.T, b api.Box, list []api.Box, want api.Errno) {
	if l, e := box.Rest(b, list); len(l) != 0 || e != want {
		t.Errorf("Rest(%v, %d boxes) = %d boxes, %d, want %d", b, len(list), len(l), e, want)
	}
	if p, e := box.Gap(b, list); p != v(0, 0, 0) || e != want {
		t.Errorf("Gap(%v, %d boxes) = %v, %d, want %d", b, len(list), p, e, want)
	}
	if e := box.Partition(b, list); e != want {
		t.Errorf("Partition(%v, %d boxes) = %d, want %d", b, len(list), e, want)
	}
	if box.Check(b) != api.OK && len(list) <= box.MaxBoxes {
		return
	}
	if n, e := box.Total(list); n != 0 || e != want {
		t.Errorf("Total(%d boxes) = %d, %d, want %d", len(list), n, e, want)
	}
	if i, k, e := box.Clash(list); i != 0 || k != 0 || e != want {
		t.Errorf("Clash(%d boxes) = %d, %d, %d, want %d", len(list), i, k, e, want)
	}
}

// P6.4, P6.5, P6.6: lists of small boxes, compared point by point.
func TestListsAgainstPoints(t *testing.T) {
	r := rand.New(rand.NewSource(2))
	seen := map[api.Errno]int{}
	for i := range 6000 {
		b := someBox(r)
		var list []api.Box
		for range r.Intn(4 + i%12) {
			list = append(list, someBox(r))
		}
		old := slices.Clone(list)
		rest, e := box.Rest(b, list)
		if e != api.OK {
			t.Fatalf("Rest(%v, %v): %d", b, list, e)
		}
		checkParts(t, b, list, rest)
		checkRestOrder(t, b, list, rest)
		seen[checkGap(t, b, list)]++
		union := map[api.Vec]bool{}
		for _, x := range list {
			for _, p := range points(x) {
				union[p] = true
			}
		}
		if n, e := box.Total(list); n != int64(len(union)) || e != api.OK {
			t.Fatalf("Total(%v) = %d, %d, want %d", list, n, e, len(union))
		}
		checkClash(t, list)
		if !slices.Equal(list, old) {
			t.Fatalf("the argument is changed: %v", list)
		}
	}
	if seen[api.OK] < 100 || seen[api.ErrNone] < 100 {
		t.Errorf("results of Gap: %v", seen)
	}
}

func checkRestOrder(t *testing.T, b api.Box, list, rest []api.Box) {
	want := []api.Box{b}
	for _, x := range list {
		var next []api.Box
		for _, a := range want {
			parts, _ := box.Subtract(a, x)
			next = append(next, parts...)
		}
		want = next
	}
	if !slices.Equal(rest, want) {
		t.Fatalf("Rest(%v, %v) = %v, want %v", b, list, rest, want)
	}
}

func checkGap(t *testing.T, b api.Box, list []api.Box) api.Errno {
	want, wantE := v(0, 0, 0), api.ErrNone
	for _, p := range points(b) {
		if !slices.ContainsFunc(list, func(x api.Box) bool { return box.Has(x, p) }) {
			want, wantE = p, api.OK
			break
		}
	}
	if got, e := box.Gap(b, list); got != want || e != wantE {
		t.Fatalf("Gap(%v, %v) = %v, %d, want %v, %d", b, list, got, e, want, wantE)
	}
	return wantE
}

func checkClash(t *testing.T, list []api.Box) {
	for i := range list {
		for k := i + 1; k < len(list); k++ {
			if box.Overlap(list[i], list[k]) {
				if a, b, e := box.Clash(list); a != i || b != k || e != api.OK {
					t.Fatalf("Clash(%v) = %d, %d, %d, want %d, %d", list, a, b, e, i, k)
				}
				return
			}
		}
	}
	if a, b, e := box.Clash(list); a != 0 || b != 0 || e != api.ErrNone {
		t.Fatalf("Clash(%v) = %d, %d, %d", list, a, b, e)
	}
}

// P6.5, P6.6: what is left of a box, and what is taken from it, make a partition of it.
func TestPartitionsOfRests(t *testing.T) {
	r := rand.New(rand.NewSource(3))
	for range 3000 {
		b, hole := someBox(r), someBox(r)
		parts, _ := box.Subtract(b, hole)
		want := api.OK
		if common, e := box.Intersect(b, hole); e == api.OK {
			parts = append(parts, common)
		}
		r.Shuffle(len(parts), func(i, k int) { parts[i], parts[k] = parts[k], parts[i] })
		if e := box.Partition(b, parts); e != want {
			t.Fatalf("Partition(%v, %v) = %d", b, parts, e)
		}
		var sum int64
		for _, p := range parts {
			n, _ := box.Volume(p)
			sum += n
		}
		if n, _ := box.Volume(b); n != sum {
			t.Fatalf("the volumes of %v and of its parts %v: %d, %d", b, parts, n, sum)
		}
		if e := box.Partition(b, parts[1:]); e != api.ErrNone {
			t.Fatalf("Partition(%v, %v) = %d", b, parts[1:], e)
		}
		if e := box.Partition(b, append(parts, parts[0])); e != api.ErrOverlap {
			t.Fatalf("Partition(%v, %v) twice = %d", b, parts, e)
		}
	}
}

// P1: as many boxes as a list may have, in general position.
func TestLongLists(t *testing.T) {
	r := rand.New(rand.NewSource(4))
	var list []api.Box
	for range box.MaxBoxes {
		lo, hi := v(r.Intn(top), r.Intn(top), r.Intn(top)), v(r.Intn(top), r.Intn(top), r.Intn(top))
		list = append(list, api.Box{Min: v(-lo.X-1, -lo.Y-1, -lo.Z-1), Max: v(hi.X+1, hi.Y+1, hi.Z+1)})
	}
	total, e := box.Total(list)
	doubled, f := box.Total(slices.Concat(list[:128], list[:128]))
	half, _ := box.Total(list[:128])
	if e != api.OK || f != api.OK || total <= half || doubled != half {
		t.Errorf("Total = %d, %d, of half the list %d, %d, twice %d", total, e, half, f, doubled)
	}
	if got, e := box.Gap(everything(), list); got != v(-top, -top, -top) || e != api.OK {
		t.Errorf("Gap = %v, %d", got, e)
	}
	list[255] = everything()
	if got, e := box.Gap(everything(), list); got != v(0, 0, 0) || e != api.ErrNone {
		t.Errorf("Gap = %v, %d", got, e)
	}
	if total, e := box.Total(list); total != 8*top*top*top || e != api.OK {
		t.Errorf("Total = %d, %d", total, e)
	}
}

// P1: results share no memory with arguments or with each other.
func TestMemory(t *testing.T) {
	base := []api.Box{cube(9, 10), cube(1, 2), cube(5, 6)}
	first, _ := box.Rest(cube(0, 4), base[:1])
	second, _ := box.Rest(cube(0, 4), base[:1])
	first[0] = cube(77, 78)
	_ = append(first, cube(55, 56))
	if second[0] != cube(0, 4) || !slices.Equal(base, []api.Box{cube(9, 10), cube(1, 2), cube(5, 6)}) {
		t.Errorf("changed: %v, %v", second, base)
	}
}
