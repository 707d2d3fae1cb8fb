package yard_test

import (
	"math"
	"math/rand"
	"reflect"
	"slices"
	"strconv"
	"strings"
	"testing"

	"gangsaw/api"
	"gangsaw/box"
	"gangsaw/yard"
)

const top = api.MaxCoord

func bx(x, y, z, x2, y2, z2 int) api.Box {
	return api.Box{Min: api.Vec{X: x, Y: y, Z: z}, Max: api.Vec{X: x2, Y: y2, Z: z2}}
}

// fact returns the fact of words and numbers.
func fact(words string) api.Fact {
	var f api.Fact
	for i, w := range strings.Fields(words) {
		n, err := strconv.ParseInt(w, 10, 64)
		switch {
		case i == 0:
			f.Kind = w
		case err == nil:
			f.Values = append(f.Values, n)
		default:
			f.Names = append(f.Names, w)
		}
	}
	return f
}

// made returns a state behind facts.
func made(t *testing.T, facts ...string) *yard.Yard {
	t.Helper()
	y := yard.New()
	for _, words := range facts {
		if e := y.Do(fact(words)); e != api.OK {
			t.Fatalf("%q: %d", words, e)
		}
	}
	return y
}

var start = []string{"free b 0 0 0 100 10 10", "cut b l r 0 40 8"}

// P59.1 to P59.4: the examples.
func TestExamples(t *testing.T) {
	y := made(t, start...)
	items := []yard.Item{{"b", "", bx(0, 0, 0, 100, 10, 10), yard.Divided, ""}, {"l", "b", bx(0, 0, 0, 40, 10, 10), yard.Whole, ""}, {"r", "b", bx(48, 0, 0, 100, 10, 10), yard.Whole, ""}}
	if got := y.Items(); !slices.Equal(got, items) {
		t.Errorf("Items = %v", got)
	}
	if path, e := y.Path("r"); !slices.Equal(path, []string{"b", "r"}) || e != api.OK {
		t.Errorf("Path = %v, %d", path, e)
	}
	if got := y.Totals(); got != (yard.Totals{Freed: 10000, States: [6]int64{yard.Whole: 9200}, Kerfs: 800}) {
		t.Errorf("Totals = %v", got)
	}
	for i, c := range []struct {
		words string
		e     api.Errno
	}{{"assign l s", api.OK}, {"set l", api.OK}, {"assign r s", api.ErrDuplicate}, {"release l", api.ErrState}} {
		if e := y.Do(fact(c.words)); e != c.e {
			t.Errorf("fact %d: %d", i, e)
		}
	}
	items[1].State, items[1].Stone = yard.Set, "s"
	if item, e := y.Stone("s"); item != items[1] || e != api.OK {
		t.Errorf("Stone = %v, %d", item, e)
	}
	if item, e := y.Find("l"); item != items[1] || e != api.OK {
		t.Errorf("Find = %v, %d", item, e)
	}
	if s, e := yard.Encode(fact("cut b l r 0 40 8")); s != "cut b l r 0 40 8" || e != api.OK {
		t.Errorf("Encode = %q, %d", s, e)
	}
}

// P59.1 to P59.3: what each fact does.
func TestFacts(t *testing.T) {
	y := made(t, "free b 0 0 0 100 10 10", "cut b x y 0 50 0", "cut x xa xb 1 4 2", "cut y ya yb 2 5 1", "assign xa s", "assign xb t", "assign ya u", "release xb", "set xa", "break ya", "break yb")
	want := []yard.Item{
		{"b", "", bx(0, 0, 0, 100, 10, 10), yard.Divided, ""}, {"x", "b", bx(0, 0, 0, 50, 10, 10), yard.Divided, ""}, {"xa", "x", bx(0, 0, 0, 50, 4, 10), yard.Set, "s"}, {"xb", "x", bx(0, 6, 0, 50, 10, 10), yard.Whole, ""},
		{"y", "b", bx(50, 0, 0, 100, 10, 10), yard.Divided, ""}, {"ya", "y", bx(50, 0, 0, 100, 10, 5), yard.Broken, ""}, {"yb", "y", bx(50, 0, 6, 100, 10, 10), yard.Broken, ""},
	}
	if got := y.Items(); !slices.Equal(got, want) {
		t.Errorf("Items = %v", got)
	}
	if got := y.Totals(); got != (yard.Totals{Freed: 10000, States: [6]int64{yard.Whole: 2000, yard.Set: 2000, yard.Broken: 4500}, Kerfs: 1500}) {
		t.Errorf("Totals = %v", got)
	}
	for _, name := range []string{"t", "u", "", "xa"} {
		if item, e := y.Stone(name); item != (yard.Item{}) || e != api.ErrNone {
			t.Errorf("Stone(%q) = %v, %d", name, item, e)
		}
	}
	for _, id := range []string{"", "s", "z"} {
		item, e := y.Find(id)
		path, f := y.Path(id)
		if item != (yard.Item{}) || path != nil || e != api.ErrUnknown || f != api.ErrUnknown {
			t.Errorf("Find(%q) = %v, %v, %d, %d", id, item, path, e, f)
		}
	}
	if path, _ := y.Path("yb"); !slices.Equal(path, []string{"b", "y", "yb"}) {
		t.Errorf("Path = %v", path)
	}
	// The stone of what was released or broken may be meant again.
	for _, words := range []string{"assign xb u", "free c 0 0 10 1 1 11", "assign c t"} {
		if e := y.Do(fact(words)); e != api.OK {
			t.Errorf("%q: %d", words, e)
		}
	}
	if got := y.Totals(); got != (yard.Totals{Freed: 10001, States: [6]int64{yard.Assigned: 2001, yard.Set: 2000, yard.Broken: 4500}, Kerfs: 1500}) {
		t.Errorf("Totals = %v", got)
	}
	if got := y.Facts(); len(got) != 14 || !reflect.DeepEqual(got[1], fact("cut b x y 0 50 0")) {
		t.Errorf("Facts = %v", got)
	}
}

// P59.1, P1: each error, and which one comes first; what is refused changes nothing.
func TestErrors(t *testing.T) {
	y := made(t, "free b 0 0 0 100 10 10", "cut b l r 0 40 8", "free c 200 0 0 300 10 10", "assign l s", "free d 0 0 50 9 9 59", "assign d u", "set d", "free e 0 0 70 9 9 79", "break e")
	before := y.Items()
	for words, want := range map[string]api.Errno{
		"": api.ErrUnknown, "Free": api.ErrUnknown, "sell B": api.ErrUnknown, "free": api.ErrInvalid, "free B 0 0 0 1 1": api.ErrInvalid, "free b b 0 0 0 1 1 1": api.ErrInvalid, "cut b l r 0 40": api.ErrInvalid, "cut b l 0 40 8": api.ErrInvalid, "assign r": api.ErrInvalid, "assign r s 1": api.ErrInvalid, "release": api.ErrInvalid, "set l 1": api.ErrInvalid, "break l l": api.ErrInvalid,
		"free B 0 0 0 1 1 1": api.ErrName, "cut x l R 9 0 0": api.ErrName, "assign x S": api.ErrName, "break X": api.ErrName, "set " + strings.Repeat("a", 25): api.ErrName,
		"cut x l l 9 0 0": api.ErrUnknown, "assign x s": api.ErrUnknown, "release x": api.ErrUnknown, "set x": api.ErrUnknown, "break x": api.ErrUnknown,
		"cut b l l 9 0 0": api.ErrState, "cut l x y 0 20 0": api.ErrState, "cut d x y 0 20 0": api.ErrState, "cut e x y 0 20 0": api.ErrState, "assign b s": api.ErrState, "assign l s": api.ErrState, "assign d x": api.ErrState, "assign e x": api.ErrState, "release b": api.ErrState, "release r": api.ErrState, "release d": api.ErrState, "release e": api.ErrState, "set r": api.ErrState, "set b": api.ErrState, "set d": api.ErrState, "set e": api.ErrState, "break b": api.ErrState, "break d": api.ErrState, "break e": api.ErrState,
		"free b 5 0 0 1 1 1": api.ErrDuplicate, "free r 0 0 0 1 1 1": api.ErrDuplicate, "cut r b x 9 0 0": api.ErrDuplicate, "cut r x l 9 0 0": api.ErrDuplicate, "cut r x x 9 0 0": api.ErrDuplicate, "cut r r x 9 0 0": api.ErrDuplicate, "assign r s": api.ErrDuplicate, "assign r u": api.ErrDuplicate,
		"free x 0 0 0 1000001 0 0": api.ErrRange, "free x 0 0 0 1 1 0": api.ErrInvalid, "free x 99 9 9 100 10 10": api.ErrOverlap, "free x 42 0 0 44 1 1": api.ErrOverlap, "free x 0 0 0 500 1 1": api.ErrOverlap, "free x -9223372036854775808 0 0 9223372036854775807 1 1": api.ErrRange,
		"cut r x y 3 60 8": api.ErrInvalid, "cut r x y -1 60 8": api.ErrInvalid, "cut r x y 0 60 -1": api.ErrRange, "cut r x y 0 60 1001": api.ErrRange, "cut r x y 0 48 8": api.ErrOutside, "cut r x y 0 92 8": api.ErrOutside, "cut r x y 0 9223372036854775807 8": api.ErrOutside,
	} {
		f := fact(words)
		if e := y.Check(f); e != want {
			t.Errorf("Check of %q = %d, want %d", words, e, want)
		}
		if e := y.Do(f); e != want || !slices.Equal(y.Items(), before) || len(y.Facts()) != 9 {
			t.Fatalf("Do of %q = %d, want %d", words, e, want)
		}
	}
	if e := y.Check(fact("cut r x y 0 91 8")); e != api.OK || !slices.Equal(y.Items(), before) {
		t.Errorf("Check = %d", e)
	}
}

// P59.1, P1: the limits.
func TestLimits(t *testing.T) {
	y := yard.New()
	for i := range api.MaxFacts {
		f := api.Fact{Kind: "free", Names: []string{"b" + strconv.Itoa(i)}, Values: []int64{int64(i), 0, 0, int64(i + 1), 1, 1}}
		if e := y.Do(f); e != api.OK {
			t.Fatalf("fact %d: %d", i, e)
		}
	}
	for words, want := range map[string]api.Errno{"free x 0 9 0 1 10 1": api.ErrTooMany, "free X 0 9 0 1 10 1": api.ErrName, "break y": api.ErrTooMany, "break b1": api.ErrTooMany} {
		if e := y.Do(fact(words)); e != want {
			t.Errorf("%q: %d", words, e)
		}
	}
	// With cuts, the items are more than the facts.
	y = made(t, "free i0 0 0 0 100000 1 1")
	for i := range 2047 {
		n := int64(2*i + 1)
		f := api.Fact{Kind: "cut", Names: []string{"i" + strconv.Itoa(2*i), "i" + strconv.FormatInt(n, 10), "i" + strconv.FormatInt(n+1, 10)}, Values: []int64{0, n, 0}}
		if e := y.Do(f); e != api.OK {
			t.Fatalf("cut %d: %d", i, e)
		}
	}
	if n := len(y.Items()); n != 4095 {
		t.Fatal(n)
	}
	for words, want := range map[string]api.Errno{"cut i4094 x y 0 5000 0": api.ErrTooMany, "cut i4094 x x 0 5000 0": api.ErrDuplicate, "cut i4094 x y 9 5000 0": api.ErrTooMany} {
		if e := y.Check(fact(words)); e != want {
			t.Errorf("%q: %d", words, e)
		}
	}
	if e := y.Do(fact("free x 0 5 0 1 6 1")); e != api.OK {
		t.Errorf("free: %d", e)
	}
	if e := y.Do(fact("free y 0 5 0 1 6 0")); e != api.ErrTooMany {
		t.Errorf("free: %d", e)
	}
	whole := made(t, "free b -1000000 -1000000 -1000000 1000000 1000000 1000000")
	if got := whole.Totals(); got.Freed != 8000000000000000000 || got.States[yard.Whole] != got.Freed {
		t.Errorf("Totals = %v", got)
	}
}

// P59.4, P1: records.
func TestRecords(t *testing.T) {
	nine := []string{"a", "b", "c", "d", "e", "f", "g", "h", "i"}
	for i, c := range []struct {
		f api.Fact
		s string
		e api.Errno
	}{
		{fact("cut b l r 0 40 8"), "cut b l r 0 40 8", api.OK}, {api.Fact{Kind: "x"}, "x", api.OK}, {api.Fact{Kind: "x", Values: []int64{-1, math.MinInt64, math.MaxInt64, 0}}, "x -1 -9223372036854775808 9223372036854775807 0", api.OK}, {api.Fact{Kind: "x", Names: nine[:8], Values: make([]int64, 8)}, "x a b c d e f g h 0 0 0 0 0 0 0 0", api.OK},
		{api.Fact{Kind: "X", Names: nine}, "", api.ErrTooMany}, {api.Fact{Kind: "X", Values: make([]int64, 9)}, "", api.ErrTooMany}, {api.Fact{}, "", api.ErrName}, {api.Fact{Kind: "x y"}, "", api.ErrName}, {api.Fact{Kind: "x", Names: []string{"a", ""}}, "", api.ErrName}, {api.Fact{Kind: "x", Names: []string{"A"}}, "", api.ErrName},
	} {
		s, e := yard.Encode(c.f)
		if s != c.s || e != c.e {
			t.Errorf("Encode %d = %q, %d", i, s, e)
		}
		if back, f := yard.Decode(s); c.e == api.OK && (!reflect.DeepEqual(back, c.f) || f != api.OK) {
			t.Errorf("Decode %d = %v, %d", i, back, f)
		}
	}
	for _, s := range []string{"", " ", "x ", " x", "x  a", "X", "x A", "x 1 a", "x 01", "x +1", "x -0", "x 1.", "x 9223372036854775808", "x a b c d e f g h i", "x 1 2 3 4 5 6 7 8 9", "5", "x\na", "x a-b", "x _a", "x " + strings.Repeat("a", 25), "x 1 "} {
		if f, e := yard.Decode(s); !reflect.DeepEqual(f, api.Fact{}) || e != api.ErrSyntax {
			t.Errorf("Decode(%q) = %v, %d", s, f, e)
		}
	}
}

// P59.4
func TestReplay(t *testing.T) {
	list := []api.Fact{fact(start[0]), fact(start[1]), fact("assign l s"), fact("assign r s"), fact("set l")}
	y, i := yard.Replay(list)
	if i != 3 || !slices.Equal(y.Items(), made(t, append(start, "assign l s")...).Items()) || len(y.Facts()) != 3 {
		t.Errorf("Replay = %v, %d", y.Items(), i)
	}
	y, i = yard.Replay(list[:3])
	if i != -1 || !reflect.DeepEqual(y.Facts(), list[:3]) {
		t.Errorf("Replay = %v, %d", y.Facts(), i)
	}
	y, i = yard.Replay(nil)
	if i != -1 || len(y.Items())+len(y.Facts()) != 0 {
		t.Errorf("Replay = %v, %d", y.Items(), i)
	}
}

// P1: states that New did not make, and memory that is not shared.
func TestOdd(t *testing.T) {
	var none *yard.Yard
	_, e1 := none.Find("a")
	_, e2 := none.Stone("a")
	_, e3 := none.Path("a")
	if none.Check(fact(start[0])) != api.OK || none.Do(fact(start[0])) != api.ErrState || none.Do(fact("set a")) != api.ErrUnknown || e1 != api.ErrUnknown || e2 != api.ErrNone || e3 != api.ErrUnknown || len(none.Items())+len(none.Facts()) != 0 || none.Totals() != (yard.Totals{}) {
		t.Error("a nil state")
	}
	var zero yard.Yard
	if e := zero.Do(fact("set a")); e != api.ErrUnknown {
		t.Errorf("Do = %d", e)
	}
	if e := zero.Do(fact(start[0])); e != api.OK || len(zero.Items()) != 1 {
		t.Errorf("Do = %d", e)
	}
	y := yard.New()
	f := fact(start[0])
	y.Do(f)
	f.Names[0], f.Values[0] = "q", 7
	got := y.Facts()
	if !reflect.DeepEqual(got[0], fact(start[0])) {
		t.Errorf("Facts = %v", got)
	}
	got[0].Names[0], got[0].Values[0] = "q", 7
	if !reflect.DeepEqual(y.Facts()[0], fact(start[0])) {
		t.Error("Facts shares memory with the state")
	}
}

// random is a fact that is often possible.
func random(r *rand.Rand) api.Fact {
	id := func() string { return "i" + strconv.Itoa(r.Intn(12)) }
	n := func(most int) string { return strconv.Itoa(r.Intn(most)) }
	return fact([]string{
		"free " + id() + " " + strings.Join([]string{n(20), n(20), n(20), n(20), n(20), n(20)}, " "),
		"cut " + id() + " " + id() + " " + id() + " " + n(3) + " " + n(20) + " " + n(3), "cut " + id() + " " + id() + " " + id() + " " + n(3) + " " + n(20) + " " + n(3),
		"assign " + id() + " s" + n(4), "release " + id(), "set " + id(), "break " + id(),
	}[r.Intn(7)])
}

// P59.1, P59.3, P59.5, P59.6
func TestProperties(t *testing.T) {
	r := rand.New(rand.NewSource(1))
	done := map[string]int{}
	for range 200 {
		y := yard.New()
		for range 80 {
			f := random(r)
			items, facts := y.Items(), y.Facts()
			e := y.Check(f)
			if g := y.Do(f); g != e {
				t.Fatalf("Do(%v) = %d, Check is %d", f, g, e)
			}
			if e != api.OK {
				if !slices.Equal(y.Items(), items) || !reflect.DeepEqual(y.Facts(), facts) {
					t.Fatalf("%v changes something", f)
				}
				continue
			}
			done[f.Kind]++
			checkState(t, y)
			for _, item := range items {
				if now, _ := y.Find(item.Id); item.State == yard.Set && now != item {
					t.Fatalf("%v was set and is now %v", item, now)
				}
			}
			again, i := yard.Replay(y.Facts())
			if i != -1 || !slices.Equal(again.Items(), y.Items()) {
				t.Fatalf("Replay of %v", y.Facts())
			}
			s, _ := yard.Encode(f)
			if back, e := yard.Decode(s); !reflect.DeepEqual(back, f) || e != api.OK {
				t.Fatalf("Decode(%q) = %v, %d", s, back, e)
			}
		}
	}
	if len(done) != 6 {
		t.Errorf("done: %v", done)
	}
}

func checkState(t *testing.T, y *yard.Yard) {
	items := y.Items()
	totals := y.Totals()
	sum := totals.Kerfs
	for _, n := range totals.States {
		sum += n
	}
	freed := int64(0)
	stones := map[string]bool{}
	for i, a := range items {
		if a.Parent == "" {
			n, _ := box.Volume(a.Box)
			freed += n
		} else if parent, _ := y.Find(a.Parent); !box.Inside(a.Box, parent.Box) || parent.State != yard.Divided {
			t.Fatalf("%v does not lie in %v", a, parent)
		}
		if a.Stone != "" && stones[a.Stone] || (a.Stone != "") != (a.State == yard.Assigned || a.State == yard.Set) {
			t.Fatalf("the stones of %v", items)
		}
		stones[a.Stone] = true
		for _, b := range items[:i] {
			if a.State != yard.Divided && b.State != yard.Divided && box.Overlap(a.Box, b.Box) {
				t.Fatalf("%v and %v overlap", a, b)
			}
		}
		path, _ := y.Path(a.Id)
		if first, _ := y.Find(path[0]); first.Parent != "" || path[len(path)-1] != a.Id {
			t.Fatalf("Path(%q) = %v", a.Id, path)
		}
	}
	if freed != totals.Freed || sum != freed || totals.States[0] != 0 || totals.States[yard.Divided] != 0 {
		t.Fatalf("Totals = %v; the blocks have %d", totals, freed)
	}
}
