package loading_test

import (
	"math"
	"math/rand"
	"reflect"
	"slices"
	"strconv"
	"strings"
	"testing"

	"gangsaw/api"
	"gangsaw/loading"
)

// lorry is the truck of the chapter's examples.
func lorry() api.Truck {
	return api.Truck{Name: "t", Length: 6000, Front: 0, Rear: 4000, Limits: [2]int64{5000000, 9000000}, Empty: [2]int64{2000000, 2000000}}
}

func stones(length int, mass int64, names ...string) []loading.Cargo {
	var list []loading.Cargo
	for _, name := range names {
		list = append(list, loading.Cargo{Stone: name, Length: length, Mass: mass})
	}
	return list
}

func load(name string, at, length int, mass int64) api.Load {
	return api.Load{Stone: name, At: at, Length: length, Mass: mass}
}

// P54.1 to P54.4: the examples.
func TestExamples(t *testing.T) {
	one := loading.Trip{Loads: []api.Load{load("a", 0, 1000, 1000000)}}
	if front, rear, e := loading.Moments(lorry(), one, 0); front != 8000*2875000 || rear != 8000*2125000 || e != api.OK {
		t.Errorf("Moments = %d, %d, %d", front, rear, e)
	}
	if front, rear, e := loading.Moments(lorry(), one, 1); front != 8000*2000000 || rear != 8000*2000000 || e != api.OK {
		t.Errorf("Moments = %d, %d, %d", front, rear, e)
	}
	three := stones(2000, 2000000, "a", "b", "c")
	if e := loading.Fits(lorry(), three); e != api.OK {
		t.Errorf("Fits = %d", e)
	}
	trips, e := loading.Plan(lorry(), three)
	packed := loading.Trip{Truck: "t", Loads: []api.Load{load("a", 4000, 2000, 2000000), load("b", 2000, 2000, 2000000), load("c", 0, 2000, 2000000)}}
	if !reflect.DeepEqual(trips, []loading.Trip{packed}) || e != api.OK {
		t.Errorf("Plan = %v, %d", trips, e)
	}
	if front, rear, e := loading.Moments(lorry(), packed, 0); front != 8000*3500000 || rear != 8000*6500000 || e != api.OK {
		t.Errorf("Moments = %d, %d, %d", front, rear, e)
	}
	if front, rear, e := loading.Moments(lorry(), packed, 2); front != 8000*3500000 || rear != 8000*2500000 || e != api.OK {
		t.Errorf("Moments = %d, %d, %d", front, rear, e)
	}
	four := stones(2000, 2000000, "a", "b", "c", "d")
	if e := loading.Fits(lorry(), four); e != api.ErrFull {
		t.Errorf("Fits = %d", e)
	}
	trips, e = loading.Plan(lorry(), four)
	if len(trips) != 2 || len(trips[0].Loads) != 3 || !slices.Equal(trips[1].Loads, []api.Load{load("d", 0, 2000, 2000000)}) || e != api.OK || loading.Verify(lorry(), four, trips) != api.OK {
		t.Errorf("Plan = %v, %d", trips, e)
	}
	if n, e := loading.Best(lorry(), four); n != 2 || e != api.OK {
		t.Errorf("Best = %d, %d", n, e)
	}
	if name, e := loading.Alone(lorry(), four); name != "" || e != api.ErrNone {
		t.Errorf("Alone = %q, %d", name, e)
	}
}

// P54.1, P54.2, P54.4: more stones may fit where fewer do not, and stones that never fit.
func TestWeights(t *testing.T) {
	// Alone at the front, the stone is too heavy for the front axle; with a stone in front of it, it lies farther back.
	heavy, light := stones(2000, 4500000, "h"), stones(2000, 1, "l")
	if e := loading.Fits(lorry(), heavy); e != api.ErrWeight {
		t.Errorf("Fits = %d", e)
	}
	both := slices.Concat(heavy, light)
	if e := loading.Fits(lorry(), both); e != api.OK {
		t.Errorf("Fits = %d", e)
	}
	if name, e := loading.Alone(lorry(), slices.Concat(light, heavy)); name != "h" || e != api.OK {
		t.Errorf("Alone = %q, %d", name, e)
	}
	trips, e := loading.Plan(lorry(), both)
	if len(trips) != 1 || e != api.OK {
		t.Errorf("Plan = %v, %d", trips, e)
	}
	// In the other order the light stone is unloaded first, and the heavy one stays at the front.
	for i, list := range [][]loading.Cargo{heavy, slices.Concat(light, heavy), slices.Concat(light, stones(2000, 1, "m"), heavy)} {
		trips, e := loading.Plan(lorry(), list)
		n, f := loading.Best(lorry(), list)
		if trips != nil || n != 0 || e != api.ErrNone || f != api.ErrNone {
			t.Errorf("list %d: %v, %d, %d, %d", i, trips, n, e, f)
		}
	}
	if e := loading.Fits(lorry(), slices.Concat(light, heavy)); e != api.ErrWeight {
		t.Errorf("Fits = %d", e)
	}
	// The heavy stone needs the light one that is set after it.
	greedy := slices.Concat(stones(2000, 1, "a"), heavy, stones(2000, 1, "b"), stones(6000, 1, "c"))
	if n, e := loading.Best(lorry(), greedy); n != 2 || e != api.OK {
		t.Errorf("Best = %d, %d", n, e)
	}
	trips, e = loading.Plan(lorry(), nil)
	n, f := loading.Best(lorry(), nil)
	if len(trips) != 0 || n != 0 || e != api.OK || f != api.OK || loading.Fits(lorry(), nil) != api.OK || loading.Verify(lorry(), nil, nil) != api.OK {
		t.Errorf("%v, %d, %d, %d", trips, n, e, f)
	}
}

type refusal struct {
	t    api.Truck
	list []loading.Cargo
	e    api.Errno
}

func refusals() []refusal {
	with := func(e api.Errno, change func(t *api.Truck, l []loading.Cargo)) refusal {
		x, list := lorry(), stones(2000, 5, "a", "b", "c")
		change(&x, list)
		return refusal{x, list, e}
	}
	list := []refusal{
		{api.Truck{}, make([]loading.Cargo, 65), api.ErrTooMany}, {lorry(), make([]loading.Cargo, 64), api.ErrName},
		with(api.ErrName, func(t *api.Truck, l []loading.Cargo) { t.Name, t.Length = "T", 0 }), with(api.ErrName, func(t *api.Truck, l []loading.Cargo) { l[2].Stone, t.Length = strings.Repeat("c", 25), 0 }),
		with(api.ErrRange, func(t *api.Truck, l []loading.Cargo) { t.Front = 4000 }), with(api.ErrRange, func(t *api.Truck, l []loading.Cargo) { t.Front = 4001 }), with(api.ErrRange, func(t *api.Truck, l []loading.Cargo) { t.Limits[1] = 1000000001 }), with(api.ErrRange, func(t *api.Truck, l []loading.Cargo) { t.Limits[0] = 1999999 }), with(api.ErrRange, func(t *api.Truck, l []loading.Cargo) { t.Empty[1] = -1 }), with(api.ErrRange, func(t *api.Truck, l []loading.Cargo) { t.Empty[1] = math.MaxInt64 }), with(api.ErrRange, func(t *api.Truck, l []loading.Cargo) { t.Limits[0] = math.MinInt64 }),
		with(api.ErrDuplicate, func(t *api.Truck, l []loading.Cargo) { l[2].Stone = "a" }),
	}
	set := func(place func(t *api.Truck, l []loading.Cargo) *int, values ...int) {
		for _, n := range values {
			list = append(list, with(api.ErrRange, func(t *api.Truck, l []loading.Cargo) { *place(t, l) = n; l[1].Stone = "a" }))
		}
	}
	set(func(t *api.Truck, l []loading.Cargo) *int { return &t.Length }, 0, -1, 30001, math.MaxInt)
	set(func(t *api.Truck, l []loading.Cargo) *int { return &t.Front }, -30001, 60001, math.MinInt)
	set(func(t *api.Truck, l []loading.Cargo) *int { return &t.Rear }, -30001, 60001, math.MaxInt)
	set(func(t *api.Truck, l []loading.Cargo) *int { return &l[2].Length }, 0, -1, 30001, math.MaxInt)
	for _, n := range []int64{0, -1, 1000000001, math.MinInt64} {
		list = append(list, with(api.ErrRange, func(t *api.Truck, l []loading.Cargo) { l[2].Mass, l[1].Stone = n, "a" }))
	}
	return list
}

// P54.1, P1: each error, and which one comes first.
func TestErrors(t *testing.T) {
	for i, c := range refusals() {
		trips, e1 := loading.Plan(c.t, c.list)
		n, e2 := loading.Best(c.t, c.list)
		name, e3 := loading.Alone(c.t, c.list)
		e4 := loading.Verify(c.t, c.list, []loading.Trip{{Truck: "?"}})
		for k, e := range []api.Errno{loading.Check(c.t, c.list), loading.Fits(c.t, c.list), e1, e2, e3, e4} {
			if e != c.e {
				t.Errorf("refusal %d, function %d: %d, want %d", i, k, e, c.e)
			}
		}
		var trip loading.Trip
		for _, s := range c.list {
			trip.Loads = append(trip.Loads, load(s.Stone, -1, s.Length, s.Mass))
		}
		front, rear, e := loading.Moments(c.t, trip, -1)
		want := c.e
		if want == api.ErrDuplicate {
			want = api.ErrOutside
		}
		if e != want || front != 0 || rear != 0 || trips != nil || n != 0 || name != "" {
			t.Errorf("refusal %d: %d, %d, %d, want %d", i, front, rear, e, want)
		}
	}
	wide := api.Truck{Name: "t", Length: 30000, Front: -30000, Rear: 60000, Limits: [2]int64{1000000000, 0}, Empty: [2]int64{1000000000, 0}}
	if e := loading.Check(wide, stones(30000, 1000000000, "a")); e != api.OK {
		t.Errorf("Check = %d", e)
	}
	var nine []string
	for i := range 9 {
		nine = append(nine, "s"+strconv.Itoa(i))
	}
	if n, e := loading.Best(lorry(), stones(9999, 5, nine...)); n != 0 || e != api.ErrTooMany {
		t.Errorf("Best = %d, %d", n, e)
	}
	if n, e := loading.Best(lorry(), stones(3000, 5, nine[:8]...)); n != 4 || e != api.OK {
		t.Errorf("Best = %d, %d", n, e)
	}
	for i, c := range []struct {
		l        api.Load
		unloaded int
		e        api.Errno
	}{
		{load("a", 5001, 1000, 1), 0, api.ErrOutside}, {load("a", -1, 1000, 1), 0, api.ErrOutside}, {load("a", math.MaxInt, 1000, 1), 5, api.ErrOutside}, {load("a", 5000, 1000, 1), -1, api.ErrRange}, {load("a", 5000, 1000, 1), 2, api.ErrRange}, {load("a", 5000, 1000, 1), math.MinInt, api.ErrRange}, {load("a", 5000, 1000, 1), 1, api.OK},
	} {
		if _, _, e := loading.Moments(lorry(), loading.Trip{Truck: "?", Loads: []api.Load{c.l}}, c.unloaded); e != c.e {
			t.Errorf("Moments %d = %d", i, e)
		}
	}
}

// P54.2, P1
func TestVerify(t *testing.T) {
	list := stones(2000, 2000000, "a", "b", "c", "d")
	for i, c := range []struct {
		change func(x []loading.Trip) []loading.Trip
		e      api.Errno
	}{
		{func(x []loading.Trip) []loading.Trip { return x }, api.OK},
		{func(x []loading.Trip) []loading.Trip { x[1].Truck, x[0].Loads = "u", nil; return x }, api.ErrUnknown},
		{func(x []loading.Trip) []loading.Trip {
			x[0].Loads[0].At = -1
			return append(x, loading.Trip{Truck: "t"})
		}, api.ErrInvalid},
		{func(x []loading.Trip) []loading.Trip { x[0].Loads[0].At = -1; return x[:1] }, api.ErrConflict},
		{func(x []loading.Trip) []loading.Trip { return []loading.Trip{x[1], x[0]} }, api.ErrConflict},
		{func(x []loading.Trip) []loading.Trip { x[1].Loads[0].Stone = "e"; return x }, api.ErrConflict},
		{func(x []loading.Trip) []loading.Trip { x[1].Loads[0].Length--; return x }, api.ErrConflict},
		{func(x []loading.Trip) []loading.Trip { x[1].Loads[0].Mass++; return x }, api.ErrConflict},
		{func(x []loading.Trip) []loading.Trip { return append(x, x[1]) }, api.ErrConflict},
		{func(x []loading.Trip) []loading.Trip { x[1].Loads[0].At, x[0].Loads[1].At = 4001, 0; return x }, api.ErrOutside},
		{func(x []loading.Trip) []loading.Trip { x[1].Loads[0].At = -1; return x }, api.ErrOutside},
		{func(x []loading.Trip) []loading.Trip { x[1].Loads[0].At = math.MaxInt; return x }, api.ErrOutside},
		{func(x []loading.Trip) []loading.Trip { x[0].Loads[1].At = 1999; return x }, api.ErrOverlap},
		{func(x []loading.Trip) []loading.Trip { x[0].Loads[0].At, x[0].Loads[1].At = 2000, 4000; return x }, api.ErrOverlap},
		{func(x []loading.Trip) []loading.Trip { x[0].Loads[0].At, x[0].Loads[2].At = 0, 4000; return x }, api.ErrOverlap},
		{func(x []loading.Trip) []loading.Trip { x[1].Loads[0].At = 4000; return x }, api.OK},
	} {
		trips, _ := loading.Plan(lorry(), list)
		if e := loading.Verify(lorry(), list, c.change(trips)); e != c.e {
			t.Errorf("Verify %d = %d, want %d", i, e, c.e)
		}
	}
	// Each stage counts: with both stones the axles bear what the second one alone lifts.
	front, behind := load("f", 0, 1000, 3000000), load("g", 5000, 1000, 6000000)
	x := lorry()
	cargo := []loading.Cargo{{"g", 1000, 6000000}, {"f", 1000, 3000000}}
	trip := []loading.Trip{{Truck: "t", Loads: []api.Load{behind, front}}}
	for i, c := range []struct {
		limits [2]int64
		e      api.Errno
	}{{[2]int64{5000000, 12000000}, api.OK}, {[2]int64{4624999, 12000000}, api.ErrWeight}, {[2]int64{4625000, 12000000}, api.OK}, {[2]int64{5000000, 10624999}, api.ErrWeight}, {[2]int64{5000000, 10625000}, api.OK}} {
		x.Limits = c.limits
		if e := loading.Verify(x, cargo, trip); e != c.e {
			t.Errorf("Verify with the limits %d: %d", i, e)
		}
	}
	x.Limits, x.Empty[0] = [2]int64{5000000, 12000000}, 0
	if e := loading.Verify(x, cargo, trip); e != api.OK {
		t.Errorf("Verify = %d", e)
	}
	x.Empty[0] = 0
	lone := []loading.Trip{{Truck: "t", Loads: []api.Load{load("g", 5000, 1000, 6000000)}}}
	if e := loading.Verify(x, cargo[:1], lone); e != api.ErrWeight {
		t.Errorf("Verify = %d", e)
	}
}

// fits tries a packed trip by its definition.
func fits(x api.Truck, list []loading.Cargo) bool {
	at, sum := 0, 0
	d := int64(2 * (x.Rear - x.Front))
	m := [2]int64{d * x.Empty[0], d * x.Empty[1]}
	for _, c := range slices.Backward(list) {
		centre := int64(2*at + c.Length)
		m[0] += c.Mass * (int64(2*x.Rear) - centre)
		m[1] += c.Mass * (centre - int64(2*x.Front))
		if m[0] < 0 || m[0] > d*x.Limits[0] || m[1] < 0 || m[1] > d*x.Limits[1] {
			return false
		}
		at += c.Length
		sum += c.Length
	}
	return sum <= x.Length
}

// fewest is the least number of trips by trial, -1 if there is none.
func fewest(x api.Truck, list []loading.Cargo) int {
	if len(list) == 0 {
		return 0
	}
	best := -1
	for n := 1; n <= len(list); n++ {
		if rest := fewest(x, list[n:]); rest >= 0 && fits(x, list[:n]) && (best < 0 || rest+1 < best) {
			best = rest + 1
		}
	}
	return best
}

// P54.1 to P54.5
func TestProperties(t *testing.T) {
	r := rand.New(rand.NewSource(1))
	planned := 0
	for range 2000 {
		x := api.Truck{Name: "t", Length: 20 + r.Intn(40), Front: r.Intn(10) - 5, Limits: [2]int64{int64(20 + r.Intn(40)), int64(20 + r.Intn(40))}, Empty: [2]int64{int64(r.Intn(20)), int64(r.Intn(20))}}
		x.Rear = x.Front + 10 + r.Intn(40)
		var list []loading.Cargo
		for i := range r.Intn(7) {
			list = append(list, loading.Cargo{"s" + strconv.Itoa(i), 1 + r.Intn(20), int64(1 + r.Intn(20))})
		}
		if got := loading.Fits(x, list); (got == api.OK) != fits(x, list) {
			t.Fatalf("Fits(%v, %v) = %d", x, list, got)
		}
		trips, e := loading.Plan(x, list)
		n, f := loading.Best(x, list)
		if want := fewest(x, list); (f == api.OK) != (want >= 0) || f == api.OK && n != want {
			t.Fatalf("Best(%v, %v) = %d, %d, want %d", x, list, n, f, want)
		}
		if e == api.OK && (loading.Verify(x, list, trips) != api.OK || len(trips) < n || f != api.OK) {
			t.Fatalf("Plan(%v, %v) = %v, %d", x, list, trips, e)
		}
		if _, alone := loading.Alone(x, list); alone == api.ErrNone && e != api.OK {
			t.Fatalf("Plan(%v, %v) = %d", x, list, e)
		}
		if e == api.OK {
			planned++
		}
		rest := list
		for _, trip := range trips {
			for more := len(trip.Loads) + 1; more <= len(rest); more++ {
				if fits(x, rest[:more]) {
					t.Fatalf("Plan(%v, %v) = %v", x, list, trips)
				}
			}
			rest = rest[len(trip.Loads):]
			for unloaded := range len(trip.Loads) + 1 {
				front, rear, _ := loading.Moments(x, trip, unloaded)
				sum := x.Empty[0] + x.Empty[1]
				for _, l := range trip.Loads[unloaded:] {
					sum += l.Mass
				}
				if front+rear != int64(2*(x.Rear-x.Front))*sum {
					t.Fatalf("Moments(%v, %v, %d) = %d, %d", x, trip, unloaded, front, rear)
				}
			}
		}
	}
	if planned < 500 {
		t.Errorf("only %d plans", planned)
	}
}
