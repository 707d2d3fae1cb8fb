package truck_test

import (
	"math"
	"math/rand"
	"strconv"
	"strings"
	"testing"

	"gangsaw/api"
	"gangsaw/fraction"
	"gangsaw/truck"
)

func f(num, den int64) api.Frac {
	x, _ := fraction.New(num, den)
	return x
}

// lorry is the truck of the chapter's examples.
func lorry() api.Truck {
	return api.Truck{Name: "t", Length: 6000, Front: 0, Rear: 5000, Limits: [2]int64{10000, 15000}, Empty: [2]int64{2000, 1000}}
}

func load(name string, at, length int, mass int64) api.Load {
	return api.Load{Stone: name, At: at, Length: length, Mass: mass}
}

func first() []api.Load { return []api.Load{load("a", 2000, 1000, 8000)} }

// P53.1 to P53.4: the examples.
func TestExamples(t *testing.T) {
	if axles, e := truck.Axles(lorry(), first()); axles != [2]api.Frac{f(6000, 1), f(5000, 1)} || e != api.OK {
		t.Errorf("Axles = %v, %d", axles, e)
	}
	if axles, e := truck.Axles(lorry(), []api.Load{load("a", 0, 100, 8000)}); axles != [2]api.Frac{f(9920, 1), f(1080, 1)} || e != api.OK {
		t.Errorf("Axles = %v, %d", axles, e)
	}
	if i, e := truck.Range(lorry(), first(), 1000, 10000); i != (api.Interval{Lo: 2500, Hi: 4500}) || e != api.OK {
		t.Errorf("Range = %v, %d", i, e)
	}
	if n, e := truck.Mass(append(first(), load("b", 0, 5, 7))); n != 8007 || e != api.OK {
		t.Errorf("Mass = %d, %d", n, e)
	}
	if x, e := truck.Center(append(first(), load("b", 0, 5, 7))); x != f(8000*5000+7*5, 2*8007) || e != api.OK {
		t.Errorf("Center = %v, %d", x, e)
	}
	if x, e := truck.Center(first()); x != f(2500, 1) || e != api.OK {
		t.Errorf("Center = %v, %d", x, e)
	}
	if x, e := truck.Center(nil); x != (api.Frac{}) || e != api.ErrNone {
		t.Errorf("Center = %v, %d", x, e)
	}
	if n, e := truck.Mass(nil); n != 0 || e != api.OK {
		t.Errorf("Mass = %d, %d", n, e)
	}
}

// P53.2: limits, axle loads below 0, and stages.
func TestSafe(t *testing.T) {
	short := lorry()
	short.Rear = 2000 // what lies behind lifts the front
	for i, c := range []struct {
		t    api.Truck
		list []api.Load
		safe bool
	}{
		{lorry(), nil, true}, {lorry(), first(), true}, {lorry(), []api.Load{load("a", 2000, 1000, 16000)}, true}, {lorry(), []api.Load{load("a", 2000, 1000, 16001)}, false}, {lorry(), []api.Load{load("a", 4500, 1000, 14000)}, true}, {lorry(), []api.Load{load("a", 4500, 1000, 14001)}, false}, {lorry(), []api.Load{load("a", 4499, 1000, 14001)}, true},
		{short, []api.Load{load("a", 3000, 1000, 2667)}, false}, {short, []api.Load{load("a", 3000, 1000, 2666)}, true}, {short, []api.Load{load("a", 0, 1, 8000)}, true}, {short, []api.Load{load("a", 0, 1, 8003)}, false},
	} {
		if got, e := truck.Safe(c.t, c.list); got != c.safe || e != api.OK {
			t.Errorf("Safe %d = %v, %d", i, got, e)
		}
	}
	// The load behind is balanced by the one in front, which is taken first.
	list := []api.Load{load("a", 3000, 1000, 4000), load("b", 0, 1000, 4000)}
	for i, c := range []struct {
		list  []api.Load
		stage int
		e     api.Errno
	}{
		{list, 1, api.OK}, {[]api.Load{list[1], list[0]}, 0, api.ErrNone}, {nil, 0, api.ErrNone}, {list[:1], 0, api.OK}, {append([]api.Load{load("c", 1000, 500, 1)}, list...), 1, api.OK},
	} {
		if stage, e := truck.Stages(short, c.list); stage != c.stage || e != c.e {
			t.Errorf("Stages %d = %d, %d", i, stage, e)
		}
	}
	heavy := lorry()
	heavy.Empty[0] = 10001
	if stage, e := truck.Stages(heavy, nil); stage != 0 || e != api.OK {
		t.Errorf("Stages = %d, %d", stage, e)
	}
	if stage, e := truck.Stages(heavy, []api.Load{load("a", 5500, 500, 10000)}); stage != 1 || e != api.OK {
		t.Errorf("Stages = %d, %d", stage, e)
	}
}

type refusal struct {
	change func(t *api.Truck)
	e      api.Errno
}

func refusals() []refusal {
	list := []refusal{
		{func(t *api.Truck) { t.Name, t.Length = "T", 0 }, api.ErrName}, {func(t *api.Truck) { t.Name = strings.Repeat("t", 25) }, api.ErrName}, {func(t *api.Truck) { t.Front = 5000 }, api.ErrInvalid}, {func(t *api.Truck) { t.Rear = -1 }, api.ErrInvalid},
	}
	set := func(place func(t *api.Truck) *int, values ...int) {
		for _, n := range values {
			list = append(list, refusal{func(t *api.Truck) { t.Front = 5000; *place(t) = n }, api.ErrRange})
		}
	}
	set(func(t *api.Truck) *int { return &t.Length }, 0, -1, 50001, math.MaxInt)
	set(func(t *api.Truck) *int { return &t.Front }, -50001, 50001, math.MinInt)
	set(func(t *api.Truck) *int { return &t.Rear }, -50001, 50001, math.MaxInt)
	for i := range 2 {
		for _, n := range []int64{0, -1, 1000000001, math.MaxInt64} {
			list = append(list, refusal{func(t *api.Truck) { t.Limits[i] = n }, api.ErrRange})
		}
		for _, n := range []int64{-1, 1000000001, math.MinInt64} {
			list = append(list, refusal{func(t *api.Truck) { t.Empty[i] = n }, api.ErrRange})
		}
	}
	return list
}

// P53.1, P1: each error of a truck, and which one comes first.
func TestTruckErrors(t *testing.T) {
	bad := make([]api.Load, 65)
	for i, c := range refusals() {
		x := lorry()
		c.change(&x)
		axles, e1 := truck.Axles(x, bad)
		safe, e2 := truck.Safe(x, bad)
		stage, e3 := truck.Stages(x, bad)
		in, e4 := truck.Range(x, bad, 0, 0)
		for k, e := range []api.Errno{truck.Check(x), truck.CheckLoads(x, bad), e1, e2, e3, e4} {
			if e != c.e {
				t.Errorf("refusal %d, function %d: %d, want %d", i, k, e, c.e)
			}
		}
		if axles != [2]api.Frac{} || safe || stage != 0 || in != (api.Interval{}) {
			t.Errorf("refusal %d has results", i)
		}
	}
	wide := api.Truck{Name: "t", Length: 50000, Front: -50000, Rear: 50000, Limits: [2]int64{1, 1000000000}, Empty: [2]int64{0, 1000000000}}
	if e := truck.Check(wide); e != api.OK {
		t.Errorf("Check = %d", e)
	}
}

// P53.1, P1: each error of loads.
func TestLoadErrors(t *testing.T) {
	with := func(change func(l []api.Load)) []api.Load {
		list := []api.Load{load("a", 0, 10, 5), load("b", 10, 10, 5), load("c", 5990, 10, 5)}
		change(list)
		return list
	}
	for i, c := range []struct {
		list []api.Load
		e    api.Errno
		free api.Errno // without a truck
	}{
		{with(func(l []api.Load) {}), api.OK, api.OK}, {make([]api.Load, 65), api.ErrTooMany, api.ErrTooMany}, {make([]api.Load, 64), api.ErrName, api.ErrName},
		{with(func(l []api.Load) { l[2].Stone, l[0].At = "C", -1 }), api.ErrName, api.ErrName}, {with(func(l []api.Load) { l[2].At, l[1].Stone = -1, "a" }), api.ErrRange, api.ErrRange}, {with(func(l []api.Load) { l[2].At = 50001 }), api.ErrRange, api.ErrRange}, {with(func(l []api.Load) { l[2].At = math.MaxInt }), api.ErrRange, api.ErrRange},
		{with(func(l []api.Load) { l[2].Length, l[1].Stone = 0, "a" }), api.ErrRange, api.ErrRange}, {with(func(l []api.Load) { l[2].Length = 50001 }), api.ErrRange, api.ErrRange}, {with(func(l []api.Load) { l[2].Mass, l[1].Stone = 0, "a" }), api.ErrRange, api.ErrRange}, {with(func(l []api.Load) { l[2].Mass = 100000001 }), api.ErrRange, api.ErrRange}, {with(func(l []api.Load) { l[2].Mass = math.MinInt64 }), api.ErrRange, api.ErrRange},
		{with(func(l []api.Load) { l[2].Stone, l[2].At = "a", 5991 }), api.ErrDuplicate, api.ErrDuplicate}, {with(func(l []api.Load) { l[2].At, l[1].At = 5991, 9 }), api.ErrOutside, api.ErrOverlap}, {with(func(l []api.Load) { l[2].At = 5991 }), api.ErrOutside, api.OK},
		{with(func(l []api.Load) { l[1].At = 9 }), api.ErrOverlap, api.ErrOverlap}, {with(func(l []api.Load) { l[0].At, l[0].Length = 12, 3 }), api.ErrOverlap, api.ErrOverlap}, {with(func(l []api.Load) { l[0].At = 20 }), api.OK, api.OK},
	} {
		_, e1 := truck.Axles(lorry(), c.list)
		_, e2 := truck.Safe(lorry(), c.list)
		_, e3 := truck.Stages(lorry(), c.list)
		_, e4 := truck.Range(lorry(), c.list, 5, 5)
		if e3 == api.ErrNone {
			e3 = api.OK
		}
		for k, e := range []api.Errno{truck.CheckLoads(lorry(), c.list), e1, e2, e3, e4} {
			if e != c.e {
				t.Errorf("loads %d, function %d: %d, want %d", i, k, e, c.e)
			}
		}
		mass, e5 := truck.Mass(c.list)
		centre, e6 := truck.Center(c.list)
		if e5 != c.free || e6 != c.free || c.free != api.OK && (mass != 0 || centre != (api.Frac{})) {
			t.Errorf("loads %d: %d, %d, want %d", i, e5, e6, c.free)
		}
	}
}

// P53.4, P1
func TestRange(t *testing.T) {
	for i, c := range []struct {
		length int
		mass   int64
		want   api.Interval
		e      api.Errno
	}{
		{0, 1, api.Interval{}, api.ErrRange}, {50001, 1, api.Interval{}, api.ErrRange}, {1, 0, api.Interval{}, api.ErrRange}, {1, 100000001, api.Interval{}, api.ErrRange}, {math.MinInt, math.MaxInt64, api.Interval{}, api.ErrRange},
		{6001, 1, api.Interval{}, api.ErrNone}, {50000, 1, api.Interval{}, api.ErrNone}, {6000, 1, api.Interval{Lo: 0, Hi: 0}, api.OK}, {1000, 100000000, api.Interval{}, api.ErrNone}, {1, 1, api.Interval{Lo: 0, Hi: 5999}, api.OK},
	} {
		if got, e := truck.Range(lorry(), nil, c.length, c.mass); got != c.want || e != c.e {
			t.Errorf("Range %d = %v, %d", i, got, e)
		}
	}
}

// P53.2 to P53.5
func TestProperties(t *testing.T) {
	r := rand.New(rand.NewSource(1))
	unsafe := 0
	for range 1000 {
		x := api.Truck{Name: "t", Length: 100 + r.Intn(100), Front: r.Intn(60) - 20, Limits: [2]int64{int64(1 + r.Intn(900)), int64(1 + r.Intn(900))}, Empty: [2]int64{int64(r.Intn(100)), int64(r.Intn(100))}}
		x.Rear = x.Front + 1 + r.Intn(120)
		var list []api.Load
		at := 0
		for i := range r.Intn(5) {
			l := load("s"+strconv.Itoa(i), at+r.Intn(9), 1+r.Intn(9), int64(1+r.Intn(200)))
			list, at = append(list, l), l.At+l.Length
		}
		axles, e := truck.Axles(x, list)
		mass, _ := truck.Mass(list)
		sum, _ := fraction.Add(axles[0], axles[1])
		if e != api.OK || sum != f(x.Empty[0]+x.Empty[1]+mass, 1) {
			t.Fatalf("Axles(%v, %v) = %v, %d", x, list, axles, e)
		}
		isSafe := true
		for i, a := range axles {
			isSafe = isSafe && a.Num >= 0 && fraction.Cmp(a, f(x.Limits[i], 1)) <= 0
		}
		got, _ := truck.Safe(x, list)
		stage, e := truck.Stages(x, list)
		if got != isSafe || (stage == 0 && e == api.OK) != !isSafe {
			t.Fatalf("Safe(%v, %v) = %v; Stages = %d, %d", x, list, got, stage, e)
		}
		for k := 0; k <= len(list); k++ {
			now, _ := truck.Safe(x, list[:len(list)-k])
			if e == api.OK && (k < stage && !now || k == stage && now) || e == api.ErrNone && !now {
				t.Fatalf("Stages(%v, %v) = %d, %d", x, list, stage, e)
			}
		}
		if !isSafe {
			unsafe++
		}
		checkMoves(t, r, x, list, axles)
		checkRange(t, r, x, list)
	}
	if unsafe < 100 || unsafe > 900 {
		t.Errorf("%d trucks are not safe", unsafe)
	}
}

func checkMoves(t *testing.T, r *rand.Rand, x api.Truck, list []api.Load, axles [2]api.Frac) {
	var reversed []api.Load
	for _, l := range list {
		reversed = append([]api.Load{l}, reversed...)
	}
	if again, _ := truck.Axles(x, reversed); again != axles {
		t.Fatalf("Axles(%v, %v) = %v, reversed %v", x, list, axles, again)
	}
	if len(list) == 0 {
		return
	}
	last := len(list) - 1
	moved := append([]api.Load{}, list...)
	moved[last].At++
	after, e := truck.Axles(x, moved)
	if e != api.OK {
		return
	}
	front, _ := fraction.Sub(axles[0], after[0])
	rear, _ := fraction.Sub(after[1], axles[1])
	if front != rear || front != f(list[last].Mass, int64(x.Rear-x.Front)) {
		t.Fatalf("Axles(%v, %v) = %v, moved %v", x, list, axles, after)
	}
}

func checkRange(t *testing.T, r *rand.Rand, x api.Truck, list []api.Load) {
	length, mass := 1+r.Intn(30), int64(1+r.Intn(300))
	in, e := truck.Range(x, list, length, mass)
	for at := 0; at <= x.Length-length; at++ {
		// A stone that lies below the others has the same moments as one beside them: the loads are moved together.
		sum := [2]int64{}
		d := int64(2 * (x.Rear - x.Front))
		for _, l := range append(list[:len(list):len(list)], load("new", at, length, mass)) {
			rear := l.Mass * int64(2*l.At+l.Length-2*x.Front)
			sum[0] += d*l.Mass - rear
			sum[1] += rear
		}
		isSafe := true
		for i := range sum {
			n := sum[i] + d*x.Empty[i]
			isSafe = isSafe && n >= 0 && n <= d*x.Limits[i]
		}
		if isSafe != (e == api.OK && at >= in.Lo && at <= in.Hi) {
			t.Fatalf("Range(%v, %v, %d, %d) = %v, %d at %d", x, list, length, mass, in, e, at)
		}
	}
	if e != api.OK && e != api.ErrNone {
		t.Fatal(e)
	}
}
