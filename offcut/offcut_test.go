package offcut_test

import (
	"math"
	"math/rand"
	"slices"
	"strconv"
	"strings"
	"testing"

	"gangsaw/api"
	"gangsaw/offcut"
)

const top = api.MaxCoord

func v(x, y, z int) api.Vec { return api.Vec{X: x, Y: y, Z: z} }

func rem(id string, x, y, z int) api.Remnant { return api.Remnant{Id: id, Size: v(x, y, z)} }

func want(name string, x, y, z int) offcut.Want { return offcut.Want{Name: name, Size: v(x, y, z)} }

// example is the offcut and the want of the chapter's examples.
func example() (api.Remnant, offcut.Want) {
	return api.Remnant{Id: "r", Size: v(100, 60, 30), Colour: 4, Grade: "fine", From: "b"}, offcut.Want{Name: "s", Size: v(40, 70, 30), Turned: true}
}

// P31.2, P31.3, P31.4: the examples.
func TestExamples(t *testing.T) {
	r, w := example()
	if fits, turned, e := offcut.Fits(r, w, 5); !fits || !turned || e != api.OK {
		t.Errorf("Fits = %v, %v, %d", fits, turned, e)
	}
	a, b := r, r
	a.Id, a.Size, b.Id, b.Size = "ra", v(25, 60, 30), "rb", v(70, 15, 30)
	if got, e := offcut.Rest(r, w, 5); !slices.Equal(got, []api.Remnant{a, b}) || e != api.OK {
		t.Errorf("Rest = %v, %d", got, e)
	}
	stock, use, e := offcut.Take([]api.Remnant{r}, w, 5, 20)
	if !slices.Equal(stock, []api.Remnant{a}) || use != (offcut.Use{Want: "s", Id: "r", Turned: true}) || e != api.OK {
		t.Errorf("Take = %v, %v, %d", stock, use, e)
	}
	if i, e := offcut.Best([]api.Remnant{rem("p", 100, 100, 30), rem("q", 90, 90, 30)}, want("s", 80, 80, 30), 0); i != 1 || e != api.OK {
		t.Errorf("Best = %d, %d", i, e)
	}
}

// P31.2
func TestFits(t *testing.T) {
	for i, c := range []struct {
		w            offcut.Want
		fits, turned bool
	}{
		{offcut.Want{Name: "s", Size: v(100, 60, 30)}, true, false},
		{offcut.Want{Name: "s", Size: v(60, 60, 30), Turned: true}, true, false},
		{offcut.Want{Name: "s", Size: v(60, 100, 30)}, false, false},
		{offcut.Want{Name: "s", Size: v(60, 100, 30), Turned: true}, true, true},
		{offcut.Want{Name: "s", Size: v(61, 100, 30), Turned: true}, false, false},
		{offcut.Want{Name: "s", Size: v(60, 101, 30), Turned: true}, false, false},
		{offcut.Want{Name: "s", Size: v(60, 100, 31), Turned: true}, false, false},
		{offcut.Want{Name: "s", Size: v(30, 60, 31), Turned: true}, false, false},
		{offcut.Want{Name: "s", Size: v(1, 1, 1), Colour: 4, Grade: "fine"}, true, false},
		{offcut.Want{Name: "s", Size: v(1, 1, 1), Colour: 3}, false, false},
		{offcut.Want{Name: "s", Size: v(1, 1, 1), Grade: "fin"}, false, false},
	} {
		r, _ := example()
		fits, turned, e := offcut.Fits(r, c.w, 1000)
		refused, f := offcut.Refused([]api.Remnant{r}, c.w, 1000)
		if fits != c.fits || turned != c.turned || refused == c.fits || e != api.OK || f != api.OK {
			t.Errorf("Fits %d = %v, %v, %d; Refused = %v, %d", i, fits, turned, e, refused, f)
		}
	}
	// Of the same volume, the first one is the best; colour 0 of an offcut is no wildcard.
	stock := []api.Remnant{rem("a", 5, 5, 4), rem("b", 9, 9, 1), rem("c", 9, 1, 9), rem("d", 81, 1, 1)}
	if i, e := offcut.Best(stock, want("s", 9, 1, 1), 0); i != 1 || e != api.OK {
		t.Errorf("Best = %d, %d", i, e)
	}
	if i, e := offcut.Best(stock, offcut.Want{Name: "s", Size: v(1, 1, 1), Colour: 1}, 0); i != 0 || e != api.ErrNone {
		t.Errorf("Best = %d, %d", i, e)
	}
	if refused, e := offcut.Refused(nil, want("s", 1, 1, 1), 0); !refused || e != api.OK {
		t.Errorf("Refused = %v, %d", refused, e)
	}
}

// P31.3: what is at most as long as the kerf is ground off, and belongs to no rest.
func TestRest(t *testing.T) {
	for i, c := range []struct {
		w     offcut.Want
		kerf  int
		rests []api.Remnant
	}{
		{want("s", 10, 20, 30), 5, []api.Remnant{rem("ra", 85, 60, 30), rem("rb", 10, 35, 30)}},
		{want("s", 95, 20, 20), 5, []api.Remnant{rem("rb", 95, 35, 30), rem("rc", 95, 20, 5)}},
		{want("s", 94, 55, 25), 5, []api.Remnant{rem("ra", 1, 60, 30)}},
		{want("s", 100, 60, 30), 0, nil},
		{want("s", 99, 59, 29), 0, []api.Remnant{rem("ra", 1, 60, 30), rem("rb", 99, 1, 30), rem("rc", 99, 59, 1)}},
	} {
		if got, e := offcut.Rest(rem("r", 100, 60, 30), c.w, c.kerf); !slices.Equal(got, c.rests) || e != api.OK {
			t.Errorf("Rest %d = %v, %d", i, got, e)
		}
	}
}

// P31.4: the rests stand at their places, and wants that fit nothing need new stone.
func TestServe(t *testing.T) {
	stock := []api.Remnant{rem("r", 10, 10, 10), rem("ra_x", 1, 1, 1), rem("z", 20, 10, 10)}
	list := []offcut.Want{want("a", 6, 10, 10), want("big", 30, 1, 1), want("b", 12, 10, 10), want("c", 4, 10, 10), want("d", 8, 8, 8)}
	behind, uses, others, e := offcut.Serve(stock, list, 0, 1)
	if !slices.Equal(behind, []api.Remnant{rem("ra_x", 1, 1, 1), rem("zab", 8, 2, 10), rem("zac", 8, 8, 2)}) || !slices.Equal(others, []string{"big"}) || e != api.OK {
		t.Errorf("Serve = %v, %v, %d", behind, others, e)
	}
	if !slices.Equal(uses, []offcut.Use{{Want: "a", Id: "r"}, {Want: "b", Id: "z"}, {Want: "c", Id: "ra"}, {Want: "d", Id: "za"}}) {
		t.Errorf("Serve: %v", uses)
	}
	behind, uses, others, e = offcut.Serve(stock, nil, 0, 1)
	if !slices.Equal(behind, stock) || len(uses)+len(others) != 0 || e != api.OK {
		t.Errorf("Serve = %v, %v, %v, %d", behind, uses, others, e)
	}
	behind[0].Id = "q"
	if stock[0].Id != "r" {
		t.Error("Serve shares memory with its argument")
	}
	next, _, _ := offcut.Take(stock, want("a", 6, 10, 10), 0, 4)
	if !slices.Equal(next, []api.Remnant{rem("ra", 4, 10, 10), rem("ra_x", 1, 1, 1), rem("z", 20, 10, 10)}) {
		t.Errorf("Take = %v", next)
	}
	next, _, _ = offcut.Take(stock, want("a", 6, 10, 10), 0, 5)
	if !slices.Equal(next, stock[1:]) || len(stock) != 3 || stock[0].Id != "r" {
		t.Errorf("Take = %v, %v", next, stock)
	}
}

// P31.1
func TestVolume(t *testing.T) {
	if n, e := offcut.Volume([]api.Remnant{rem("a", 2, 3, 4), rem("b", 1, 1, 5)}); n != 29 || e != api.OK {
		t.Errorf("Volume = %d, %d", n, e)
	}
	if n, e := offcut.Volume(nil); n != 0 || e != api.OK {
		t.Errorf("Volume = %d, %d", n, e)
	}
	var list []api.Remnant
	for i := range 8 {
		list = append(list, rem("a"+strconv.Itoa(i), top, top, top))
	}
	if n, e := offcut.Volume(list); n != 8000000000000000000 || e != api.OK {
		t.Errorf("Volume = %d, %d", n, e)
	}
	if n, e := offcut.Volume(append(list, rem("b", 1, 1, 1))); n != 0 || e != api.ErrRange {
		t.Errorf("Volume = %d, %d", n, e)
	}
	for i := range 248 {
		list = append(list, rem("b"+strconv.Itoa(100+i), top, top, top))
	}
	if n, e := offcut.Volume(list); n != 0 || e != api.ErrRange {
		t.Errorf("Volume = %d, %d", n, e)
	}
}

// errorsOf returns what all functions of a stock say.
func errorsOf(stock []api.Remnant, w offcut.Want, kerf, least int) map[string]api.Errno {
	_, e1 := offcut.Best(stock, w, kerf)
	_, _, e2 := offcut.Take(stock, w, kerf, least)
	_, _, _, e3 := offcut.Serve(stock, []offcut.Want{want("ok", 1, 1, 1), w}, kerf, least)
	_, e4 := offcut.Refused(stock, w, kerf)
	_, e5 := offcut.Volume(stock)
	return map[string]api.Errno{"Check": offcut.Check(stock), "Best": e1, "Take": e2, "Serve": e3, "Refused": e4, "Volume": e5}
}

// P31.1, P1: errors of stocks come before those of wants.
func TestStockErrors(t *testing.T) {
	with := func(change func(s []api.Remnant)) []api.Remnant {
		stock := []api.Remnant{rem("a", 1, 1, 1), rem("b", 1, 1, 1), rem("c", 1, 1, 1)}
		change(stock)
		return stock
	}
	type refusal struct {
		stock []api.Remnant
		e     api.Errno
	}
	list := []refusal{
		{make([]api.Remnant, 257), api.ErrTooMany},
		{with(func(s []api.Remnant) { s[2].Id, s[0].Colour = "C", -1 }), api.ErrName},
		{with(func(s []api.Remnant) { s[2].Grade, s[0].Colour = "1", -1 }), api.ErrName},
		{with(func(s []api.Remnant) { s[2].From, s[0].Colour = "a b", -1 }), api.ErrName},
		{with(func(s []api.Remnant) { s[1].Id = "a" }), api.ErrDuplicate},
		{with(func(s []api.Remnant) { s[1].Id = "d" }), api.ErrDuplicate},
	}
	for _, n := range []int{0, -1, top + 1, math.MaxInt, math.MinInt} {
		for _, s := range []api.Vec{v(n, 1, 1), v(1, n, 1), v(1, 1, n)} {
			list = append(list, refusal{with(func(r []api.Remnant) { r[2].Size, r[0].Id = s, "b" }), api.ErrRange})
		}
	}
	for _, n := range []int{-1, 1001, math.MaxInt} {
		list = append(list, refusal{with(func(r []api.Remnant) { r[2].Colour, r[0].Id = n, "b" }), api.ErrRange})
	}
	for i, c := range list {
		for name, e := range errorsOf(c.stock, offcut.Want{}, -1, 0) {
			if e != c.e {
				t.Errorf("%s of refusal %d: %d, want %d", name, i, e, c.e)
			}
		}
		if c.e == api.ErrTooMany || c.e == api.ErrDuplicate {
			continue
		}
		_, _, e := offcut.Fits(c.stock[2], offcut.Want{}, -1)
		_, f := offcut.Rest(c.stock[2], offcut.Want{}, -1)
		if e != c.e || f != c.e {
			t.Errorf("Fits, Rest of refusal %d: %d, %d", i, e, f)
		}
	}
}

// P31.2 to P31.4, P1
func TestWantErrors(t *testing.T) {
	stock := []api.Remnant{{Id: "a", Size: v(9, 9, 9), Colour: 1000}}
	type refusal struct {
		w           offcut.Want
		kerf, least int
		e           api.Errno
	}
	list := []refusal{
		{offcut.Want{Name: "A", Colour: -1}, -1, 0, api.ErrName},
		{offcut.Want{Name: "a", Grade: "A", Colour: -1}, -1, 0, api.ErrName},
		{offcut.Want{Name: strings.Repeat("a", 25)}, -1, 0, api.ErrName},
	}
	for _, n := range []int{0, -1, top + 1, math.MinInt} {
		list = append(list, refusal{want("a", n, 1, 1), 0, 1, api.ErrRange}, refusal{want("a", 1, n, 1), 0, 1, api.ErrRange}, refusal{want("a", 1, 1, n), 0, 1, api.ErrRange})
	}
	for _, n := range []int{-1, 1001, math.MaxInt} {
		list = append(list, refusal{offcut.Want{Name: "a", Size: v(1, 1, 1), Colour: n}, 0, 1, api.ErrRange}, refusal{want("a", 10, 1, 1), n, 1, api.ErrRange})
	}
	list = append(list, refusal{want("a", 10, 1, 1), 1000, 1, api.ErrNone})
	for i, c := range list {
		for name, e := range errorsOf(stock, c.w, c.kerf, c.least) {
			isFree := name == "Check" || name == "Volume" || c.e == api.ErrNone && (name == "Serve" || name == "Refused")
			if wanted := map[bool]api.Errno{true: api.OK, false: c.e}[isFree]; e != wanted {
				t.Errorf("%s of refusal %d: %d, want %d", name, i, e, wanted)
			}
		}
		_, _, e := offcut.Fits(stock[0], c.w, c.kerf)
		_, f := offcut.Rest(stock[0], c.w, c.kerf)
		if f != c.e || e != c.e && c.e != api.ErrNone {
			t.Errorf("Fits, Rest of refusal %d: %d, %d", i, e, f)
		}
	}
	for _, n := range []int{0, -1, top + 1, math.MaxInt, math.MinInt} {
		_, _, e1 := offcut.Take(stock, want("a", 10, 1, 1), 0, n)
		_, _, _, e2 := offcut.Serve(stock, nil, 0, n)
		if e1 != api.ErrRange || e2 != api.ErrRange {
			t.Errorf("the least size %d: %d, %d", n, e1, e2)
		}
	}
	if _, _, _, e := offcut.Serve(stock, make([]offcut.Want, 257), 0, 0); e != api.ErrTooMany {
		t.Errorf("Serve = %d", e)
	}
	if _, _, _, e := offcut.Serve(stock, []offcut.Want{want("a", 0, 1, 1), want("A", 1, 1, 1)}, 0, 0); e != api.ErrName {
		t.Errorf("Serve = %d", e)
	}
}

// P31.3, P31.4, P1: ids of rests.
func TestRestErrors(t *testing.T) {
	long := strings.Repeat("a", 24)
	stock := []api.Remnant{rem(long, 9, 9, 9)}
	w := want("w", 9, 9, 5)
	if got, e := offcut.Rest(stock[0], w, 0); got != nil || e != api.ErrName {
		t.Errorf("Rest = %v, %d", got, e)
	}
	if got, use, e := offcut.Take(stock, w, 0, 4); got != nil || use != (offcut.Use{}) || e != api.ErrName {
		t.Errorf("Take = %v, %v, %d", got, use, e)
	}
	if got, _, e := offcut.Take(stock, w, 0, 5); len(got) != 0 || e != api.OK {
		t.Errorf("Take = %v, %d", got, e)
	}
	if got, uses, names, e := offcut.Serve(stock, []offcut.Want{want("x", 10, 1, 1), w}, 0, 4); got != nil || uses != nil || names != nil || e != api.ErrName {
		t.Errorf("Serve = %v, %v, %v, %d", got, uses, names, e)
	}
	twins := []api.Remnant{rem("a", 9, 9, 9), rem("ac", 99, 99, 99)}
	if got, _, e := offcut.Take(twins, w, 0, 4); got != nil || e != api.ErrDuplicate {
		t.Errorf("Take = %v, %d", got, e)
	}
	if got, _, e := offcut.Take(twins, w, 0, 5); len(got) != 1 || e != api.OK {
		t.Errorf("Take = %v, %d", got, e)
	}
	full := []api.Remnant{rem("a", 9, 9, 9)}
	for i := range 255 {
		full = append(full, rem("b"+strconv.Itoa(1000+i), 1, 1, 1))
	}
	if got, _, e := offcut.Take(full, w, 0, 4); len(got) != 256 || e != api.OK {
		t.Errorf("Take: %d, %d", len(got), e)
	}
	if got, _, e := offcut.Take(full, want("w", 8, 9, 8), 0, 1); got != nil || e != api.ErrTooMany {
		t.Errorf("Take = %v, %d", got, e)
	}
	full[255].Id = "ac"
	slices.SortFunc(full, func(a, b api.Remnant) int { return strings.Compare(a.Id, b.Id) })
	if _, _, e := offcut.Take(full, want("w", 8, 9, 8), 0, 1); e != api.ErrDuplicate {
		t.Errorf("Take = %d", e)
	}
}

// P31.5
func TestProperties(t *testing.T) {
	r := rand.New(rand.NewSource(1))
	volume := func(list []api.Remnant) int64 {
		n, e := offcut.Volume(list)
		if e != api.OK {
			t.Fatalf("Volume(%v): %d", list, e)
		}
		return n
	}
	for range 2000 {
		var stock []api.Remnant
		for i := range r.Intn(6) {
			stock = append(stock, rem("a"+strconv.Itoa(i), 1+r.Intn(12), 1+r.Intn(12), 1+r.Intn(12)))
		}
		kerf := r.Intn(3)
		var list []offcut.Want
		for i := range r.Intn(6) {
			w := want("w"+strconv.Itoa(i), 1+r.Intn(12), 1+r.Intn(12), 1+r.Intn(12))
			w.Turned = r.Intn(2) == 0
			list = append(list, w)
		}
		behind, uses, others, e := offcut.Serve(stock, list, kerf, 1)
		if e != api.OK || len(uses)+len(others) != len(list) || volume(behind) > volume(stock) || offcut.Check(behind) != api.OK {
			t.Fatalf("Serve(%v, %v) = %v, %v, %v, %d", stock, list, behind, uses, others, e)
		}
		stones := int64(0)
		for _, w := range list {
			if !slices.Contains(others, w.Name) {
				stones += int64(w.Size.X * w.Size.Y * w.Size.Z)
			}
			refused, _ := offcut.Refused(stock, w, kerf)
			if part, _ := offcut.Refused(stock[:len(stock)/2], w, kerf); refused && !part {
				t.Fatalf("%v is refused by the stock %v, but not by a part", w, stock)
			}
		}
		if lost := volume(stock) - volume(behind); lost < stones || kerf == 0 && lost != stones {
			t.Fatalf("Serve(%v, %v, %d): %d are lost, the stones have %d", stock, list, kerf, lost, stones)
		}
	}
}
