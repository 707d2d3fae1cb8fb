package certificate_test

import (
	"math"
	"math/rand"
	"reflect"
	"slices"
	"strconv"
	"strings"
	"testing"

	"gangsaw/api"
	"gangsaw/assign"
	"gangsaw/boxpack"
	"gangsaw/certificate"
	"gangsaw/codec"
	"gangsaw/jobshop"
	"gangsaw/support"
)

type claim = certificate.Claim

func in(lo, hi int) api.Interval { return api.Interval{Lo: lo, Hi: hi} }

func names(list ...string) []string { return list }

func numbers(list ...int64) []int64 { return list }

func block(name string, x, y, z, x2, y2, z2 int) api.Block {
	return api.Block{Name: name, Box: api.Box{Min: api.Vec{X: x, Y: y, Z: z}, Max: api.Vec{X: x2, Y: y2, Z: z2}}}
}

// site has blocks a and b that can be freed one after the other, and c and d that are held.
func site() api.Site {
	return api.Site{
		Survey: api.Survey{
			Pit: api.Box{Max: api.Vec{X: 100, Y: 100, Z: 40}}, Open: [4]bool{true}, Beds: []api.Bed{{Name: "k", Z: 0}, {Name: "l", Z: 20}},
			Joints: []api.Joint{{Name: "j", Axis: api.AxisX, At: 50, Lo: 0, Hi: 40}},
		},
		Benches: []api.Bench{{Name: "low", Lo: 0, Hi: 20}, {Name: "high", Lo: 20, Hi: 40}},
		Blocks:  []api.Block{block("a", 50, 0, 20, 100, 100, 40), block("b", 50, 0, 0, 100, 100, 20), block("c", 0, 0, 0, 50, 100, 20), block("d", 0, 0, 20, 50, 100, 40)},
		Density: 2700,
	}
}

func edges(list ...[3]int) []api.Edge {
	var all []api.Edge
	for _, e := range list {
		all = append(all, api.Edge{Left: e[0], Right: e[1], Cost: int64(e[2])})
	}
	return all
}

func machines() []api.Machine { return []api.Machine{{Name: "m", Work: "saw", Setup: 10}} }

func jobs() []api.Job {
	return []api.Job{{Name: "a", Steps: []api.Step{{Work: "saw", Minutes: 30, Drying: 5}}, Release: 10}, {Name: "b", Steps: []api.Step{{Work: "saw", Minutes: 40}}, Release: 10}}
}

// claims has a true claim of each kind; a greater Value makes the last ones false, and those of NoMore and NoBetter with a lesser one.
func claims() map[int]claim {
	return map[int]claim{
		certificate.NoOrder:   {Kind: certificate.NoOrder, Count: 3, Pairs: [][2]int{{0, 1}, {1, 2}, {2, 0}}},
		certificate.NoFree:    {Kind: certificate.NoFree, Site: site(), Goal: "c"},
		certificate.NoMore:    {Kind: certificate.NoMore, Left: 2, Right: 2, Edges: edges([3]int{0, 0, 1}, [3]int{1, 0, 1}), Value: 1},
		certificate.NoCheaper: {Kind: certificate.NoCheaper, Left: 2, Right: 2, Edges: edges([3]int{0, 0, 5}, [3]int{0, 1, 1}, [3]int{1, 1, 2}), Value: 7},
		certificate.NoBetter:  {Kind: certificate.NoBetter, Size: api.Vec{X: 2, Y: 2, Z: 1}, Kerf: 1, Items: []api.Item{{Name: "a", Size: api.Vec{X: 2, Y: 2, Z: 1}, Value: 5}, {Name: "b", Size: api.Vec{X: 1, Y: 1, Z: 1}, Value: 1}}, Value: 5},
		certificate.NoClose:   {Kind: certificate.NoClose, Lengths: []api.Interval{in(100, 102), in(50, 50)}, Joint: in(5, 8), Room: 156},
		certificate.NoSooner:  {Kind: certificate.NoSooner, Machines: machines(), Jobs: jobs(), Value: 80},
	}
}

// P58.1, P58.3: the examples.
func TestExamples(t *testing.T) {
	order := claims()[certificate.NoOrder]
	if !certificate.Proves(order, certificate.Certificate{Kind: certificate.NoOrder, Numbers: numbers(0, 1, 2)}) || certificate.Proves(order, certificate.Certificate{Kind: certificate.NoOrder, Numbers: numbers(0, 2, 1)}) {
		t.Error("NoOrder")
	}
	if s, e := certificate.Text(certificate.Certificate{Kind: certificate.NoOrder, Numbers: numbers(0, 1, 2)}); s != "no order: 0 1 2" || e != api.OK {
		t.Errorf("Text = %q, %d", s, e)
	}
	row := claims()[certificate.NoClose]
	for room, want := range map[int]bool{156: true, 157: false, 158: false, 160: false, 161: true} {
		row.Room = room
		if got := certificate.Proves(row, certificate.Certificate{Kind: certificate.NoClose, Numbers: numbers(102, 50)}); got != want {
			t.Errorf("NoClose with the room %d: %v", room, got)
		}
	}
	sooner := claims()[certificate.NoSooner]
	for i, c := range []struct {
		value   int64
		name    string
		numbers []int64
		want    bool
	}{
		{80, "saw", numbers(2), true}, {81, "saw", numbers(2), false}, {50, "b", numbers(1), true}, {51, "b", numbers(1), false}, {45, "a", numbers(1), true}, {46, "a", numbers(1), false}, {0, "c", numbers(1), false}, {0, "saw", numbers(1), false}, {0, "b", numbers(2), false}, {0, "b", numbers(3), false}, {0, "b", numbers(0), false}, {0, "b", nil, false}, {0, "b", numbers(1, 1), false}, {math.MinInt64, "b", numbers(1), true},
	} {
		sooner.Value = c.value
		if got := certificate.Proves(sooner, certificate.Certificate{Kind: certificate.NoSooner, Names: names(c.name), Numbers: c.numbers}); got != c.want {
			t.Errorf("NoSooner %d: %v", i, got)
		}
	}
}

// P58.1: what proves, and what does not.
func TestProves(t *testing.T) {
	all := claims()
	with := func(kind int, change func(c *claim)) claim {
		c := all[kind]
		change(&c)
		return c
	}
	loops := with(certificate.NoOrder, func(c *claim) { c.Pairs = [][2]int{{2, 2}, {0, 1}, {1, 0}, {0, 1}} })
	for i, c := range []struct {
		c       claim
		names   []string
		numbers []int64
		want    bool
	}{
		{all[1], nil, numbers(1, 2, 0), true}, {all[1], nil, numbers(0, 1, 2, 0, 1, 2), true}, {all[1], nil, numbers(0, 1), false}, {all[1], nil, nil, false}, {all[1], nil, numbers(0), false}, {all[1], nil, numbers(0, 1, 3), false}, {all[1], nil, numbers(math.MinInt64), false}, {all[1], names("a"), numbers(0, 1, 2), false}, {loops, nil, numbers(2), true}, {loops, nil, numbers(0, 1), true}, {loops, nil, numbers(1), false},
		{all[2], names("c", "d"), nil, true}, {all[2], names("c"), nil, true}, {all[2], names("d", "c"), nil, false}, {all[2], names("c", "c", "d"), nil, false}, {all[2], names("a", "c", "d"), nil, false}, {all[2], names("c", "d", "x"), nil, false}, {all[2], names("d"), nil, false}, {all[2], names("c", "d"), numbers(1), false}, {all[2], nil, nil, false}, {with(2, func(c *claim) { c.Goal = "d" }), names("c", "d"), nil, true}, {with(2, func(c *claim) { c.Goal = "b" }), names("b", "c", "d"), nil, false},
		{all[3], nil, numbers(0, 0), true}, {all[3], nil, numbers(1, 0, 0), false}, {with(3, func(c *claim) { c.Value = 2 }), nil, numbers(1, 0, 0), true}, {with(3, func(c *claim) { c.Value = 2 }), nil, numbers(2, 0, 1), true}, {all[3], nil, numbers(2, 0, 1), false}, {all[3], nil, numbers(0), false}, {all[3], nil, nil, false}, {all[3], nil, numbers(-1, 0), false}, {all[3], nil, numbers(2, 0), false}, {all[3], nil, numbers(math.MaxInt64, 0), false}, {all[3], nil, numbers(0, 2), false}, {all[3], names("a"), numbers(0, 0), false}, {with(3, func(c *claim) { c.Value = 5 }), nil, numbers(0, 1, 0), false},
		{all[4], nil, numbers(5, 6, 0, 4), true}, {with(4, func(c *claim) { c.Value = 8 }), nil, numbers(5, 6, 0, 4), false}, {with(4, func(c *claim) { c.Value = -9 }), nil, numbers(0, 0, 0, 0), true}, {all[4], nil, numbers(6, 6, 0, 4), false}, {all[4], nil, numbers(5, 6, 0), false}, {all[4], nil, nil, false}, {all[4], nil, numbers(5, 6, -1, 4), false}, {all[4], names("a"), numbers(5, 6, 0, 4), false},
		{all[5], nil, numbers(1, 1, 1, 5), true}, {all[5], nil, numbers(1, 1, 1, 6), false}, {with(5, func(c *claim) { c.Value = 6 }), nil, numbers(1, 1, 1, 6), true}, {all[5], nil, numbers(1, 1, 1, 4), false}, {all[5], nil, numbers(1, 1, 1), false}, {all[5], nil, nil, false}, {all[5], names("a"), numbers(1, 1, 1, 5), false},
		{all[6], nil, numbers(102, 50), true}, {all[6], nil, numbers(101, 50), false}, {all[6], nil, numbers(103, 50), false}, {all[6], nil, numbers(102), false}, {all[6], nil, numbers(102, 50, 50), false}, {all[6], names("a"), numbers(102, 50), false}, {all[6], nil, numbers(math.MaxInt64, math.MinInt64), false}, {with(6, func(c *claim) { c.Room = 159 }), nil, numbers(100, 50), true}, {with(6, func(c *claim) { c.Room = 158 }), nil, numbers(100, 50), false},
		{all[7], names("saw", "saw"), numbers(2), false}, {all[7], nil, numbers(2), false},
	} {
		x := certificate.Certificate{Kind: c.c.Kind, Names: c.names, Numbers: c.numbers}
		if got := certificate.Proves(c.c, x); got != c.want {
			t.Errorf("Proves %d = %v", i, got)
		}
		x.Kind = c.c.Kind%7 + 1
		if certificate.Proves(c.c, x) {
			t.Errorf("Proves %d with another kind", i)
		}
	}
	if certificate.Proves(all[1], certificate.Certificate{Kind: 1, Names: names("A"), Numbers: numbers(0, 1, 2)}) || certificate.Proves(claim{}, certificate.Certificate{}) || certificate.Proves(with(1, func(c *claim) { c.Count = 2 }), certificate.Certificate{Kind: 1, Numbers: numbers(0, 1, 2)}) {
		t.Error("Proves of what is not valid")
	}
}

// P58.1, P58.2, P1: each error of claims, and which one comes first.
func TestClaimErrors(t *testing.T) {
	all := claims()
	bad := api.Site{}
	for i, c := range []struct {
		kind   int
		change func(c *claim)
		e      api.Errno
	}{
		{1, func(c *claim) { c.Kind = 0 }, api.ErrInvalid}, {1, func(c *claim) { c.Kind = 8 }, api.ErrInvalid}, {1, func(c *claim) { c.Kind = math.MinInt }, api.ErrInvalid},
		{1, func(c *claim) { c.Count, c.Pairs[0][0] = 257, -1 }, api.ErrTooMany}, {1, func(c *claim) { c.Pairs, c.Count = make([][2]int, 4097), -1 }, api.ErrTooMany}, {1, func(c *claim) { c.Count, c.Pairs = -1, nil }, api.ErrRange}, {1, func(c *claim) { c.Pairs = [][2]int{{0, 3}} }, api.ErrRange}, {1, func(c *claim) { c.Pairs = [][2]int{{-1, 0}} }, api.ErrRange}, {1, func(c *claim) { c.Pairs, c.Count = nil, 256 }, api.OK},
		{1, func(c *claim) { c.Site, c.Room, c.Left = bad, -1, -1 }, api.OK}, {2, func(c *claim) { c.Site, c.Goal = bad, "?" }, api.ErrInvalid}, {2, func(c *claim) { c.Goal = "x" }, api.ErrUnknown}, {2, func(c *claim) { c.Site.Density = 0 }, api.ErrRange}, {2, func(c *claim) { c.Count, c.Left = -1, -1 }, api.OK},
		{3, func(c *claim) { c.Left = -1 }, api.ErrInvalid}, {3, func(c *claim) { c.Right = 65 }, api.ErrTooMany}, {4, func(c *claim) { c.Left = 65 }, api.ErrTooMany}, {4, func(c *claim) { c.Edges = edges([3]int{2, 0, 0}) }, api.ErrRange}, {4, func(c *claim) { c.Edges = edges([3]int{0, 0, 0}, [3]int{0, 0, 0}) }, api.ErrDuplicate},
		{5, func(c *claim) { c.Items = make([]api.Item, 7) }, api.ErrTooMany}, {5, func(c *claim) { c.Items = []api.Item{{}} }, api.ErrName}, {5, func(c *claim) { c.Size.X = 25 }, api.ErrRange}, {5, func(c *claim) { c.Items = append(slices.Clone(c.Items), c.Items[0]) }, api.ErrDuplicate},
		{6, func(c *claim) { c.Lengths, c.Room = make([]api.Interval, 513), -1 }, api.ErrTooMany}, {6, func(c *claim) { c.Lengths = nil }, api.ErrRange}, {6, func(c *claim) { c.Lengths = []api.Interval{in(0, 5)} }, api.ErrRange}, {6, func(c *claim) { c.Lengths = []api.Interval{in(6, 5)} }, api.ErrRange}, {6, func(c *claim) { c.Lengths = []api.Interval{in(6, 1000001)} }, api.ErrRange}, {6, func(c *claim) { c.Joint = in(-1, 5) }, api.ErrRange}, {6, func(c *claim) { c.Joint = in(5, 4) }, api.ErrRange}, {6, func(c *claim) { c.Joint = in(5, 1001) }, api.ErrRange}, {6, func(c *claim) { c.Room = -1 }, api.ErrRange}, {6, func(c *claim) { c.Room = 1000000001 }, api.ErrRange}, {6, func(c *claim) { c.Room = 0 }, api.OK},
		{7, func(c *claim) { c.Machines = make([]api.Machine, 33) }, api.ErrTooMany}, {7, func(c *claim) { c.Machines = nil }, api.ErrUnknown}, {7, func(c *claim) { c.Jobs = []api.Job{{Name: "a"}} }, api.ErrNone},
	} {
		x := all[c.kind]
		x.Pairs = slices.Clone(x.Pairs)
		c.change(&x)
		made, e := certificate.Make(x)
		if f := certificate.CheckClaim(x); f != c.e || c.e != api.OK && (e != c.e || !reflect.DeepEqual(made, certificate.Certificate{})) {
			t.Errorf("claim %d: %d, %d, want %d", i, f, e, c.e)
		}
	}
}

// P58.2: the least claims that are true can be proved, and those that are not cannot.
func TestMake(t *testing.T) {
	for kind, c := range claims() {
		x, e := certificate.Make(c)
		if e != api.OK || x.Kind != kind || !certificate.Proves(c, x) {
			t.Errorf("Make of the kind %d = %v, %d", kind, x, e)
		}
		switch kind {
		case certificate.NoOrder:
			c.Pairs = c.Pairs[:2]
		case certificate.NoFree:
			c.Goal = "b"
		case certificate.NoMore, certificate.NoBetter:
			c.Value--
		case certificate.NoClose:
			c.Room = 158
		default:
			c.Value++
		}
		if x, e := certificate.Make(c); !reflect.DeepEqual(x, certificate.Certificate{}) || e != api.ErrNone {
			t.Errorf("Make of a false claim of the kind %d = %v, %d", kind, x, e)
		}
	}
	c := claims()[certificate.NoSooner]
	c.Value = 50
	c.Machines = append(c.Machines, api.Machine{Name: "n", Work: "saw"})
	if x, e := certificate.Make(c); e != api.OK || !certificate.Proves(c, x) {
		t.Errorf("Make = %v, %d", x, e)
	}
	c.Jobs = nil
	if x, e := certificate.Make(c); e != api.ErrNone {
		t.Errorf("Make = %v, %d", x, e)
	}
}

// P58.3, P1
func TestForms(t *testing.T) {
	for kind, words := range map[int]string{1: "no order", 2: "never free", 3: "no more", 4: "no cheaper", 5: "no better", 6: "no closing", 7: "no sooner"} {
		x := certificate.Certificate{Kind: kind, Names: names("b", "a"), Numbers: numbers(-5, math.MaxInt64, math.MinInt64, 0)}
		want, _ := codec.Encode(codec.Seq(codec.Num(int64(kind)), codec.Seq(codec.Str("b"), codec.Str("a")), codec.Seq(codec.Num(-5), codec.Num(math.MaxInt64), codec.Num(math.MinInt64), codec.Num(0))))
		s, e := certificate.Encode(x)
		back, f := certificate.Decode(s)
		text, g := certificate.Text(x)
		if s != want || !reflect.DeepEqual(back, x) || text != words+": b a -5 9223372036854775807 -9223372036854775808 0" || e != api.OK || f != api.OK || g != api.OK || certificate.Check(x) != api.OK {
			t.Errorf("kind %d: %q, %v, %q, %d, %d, %d", kind, s, back, text, e, f, g)
		}
	}
	if s, e := certificate.Text(certificate.Certificate{Kind: 2}); s != "never free:" || e != api.OK {
		t.Errorf("Text = %q, %d", s, e)
	}
	for i, c := range []struct {
		x certificate.Certificate
		e api.Errno
	}{
		{certificate.Certificate{Kind: 0, Names: make([]string, 257)}, api.ErrInvalid}, {certificate.Certificate{Kind: 8}, api.ErrInvalid}, {certificate.Certificate{Kind: 1, Names: make([]string, 257)}, api.ErrTooMany}, {certificate.Certificate{Kind: 1, Names: names("A"), Numbers: make([]int64, 16385)}, api.ErrTooMany}, {certificate.Certificate{Kind: 1, Names: names("a", "A"), Numbers: make([]int64, 16384)}, api.ErrName}, {certificate.Certificate{Kind: 7, Names: names(strings.Repeat("a", 25))}, api.ErrName},
	} {
		s, e1 := certificate.Encode(c.x)
		text, e2 := certificate.Text(c.x)
		if e := certificate.Check(c.x); e != c.e || e1 != c.e || e2 != c.e || s+text != "" {
			t.Errorf("certificate %d: %d, %d, %d", i, e, e1, e2)
		}
		var list, others []codec.Value
		for _, name := range c.x.Names {
			list = append(list, codec.Str(name))
		}
		for _, n := range c.x.Numbers {
			others = append(others, codec.Num(n))
		}
		encoded, _ := codec.Encode(codec.Seq(codec.Num(int64(c.x.Kind)), codec.Seq(list...), codec.Seq(others...)))
		if x, e := certificate.Decode(encoded); !reflect.DeepEqual(x, certificate.Certificate{}) || e != api.ErrInvalid {
			t.Errorf("Decode %d = %v, %d", i, x, e)
		}
	}
	great := certificate.Certificate{Kind: 5, Numbers: slices.Repeat(numbers(math.MinInt64), 16384)}
	if s, e := certificate.Encode(great); s == "" || e != api.OK {
		t.Errorf("Encode = %d", e)
	}
	num, empty := codec.Num(1), codec.Seq()
	for i, v := range []codec.Value{num, empty, codec.Seq(num, empty), codec.Seq(num, empty, empty, empty), codec.Seq(codec.Str("a"), empty, empty), codec.Seq(num, num, empty), codec.Seq(num, empty, codec.Str("")), codec.Seq(num, codec.Seq(num), empty), codec.Seq(num, empty, codec.Seq(codec.Str("a"))), codec.Seq(num, codec.Seq(empty), empty)} {
		s, _ := codec.Encode(v)
		if x, e := certificate.Decode(s); !reflect.DeepEqual(x, certificate.Certificate{}) || e != api.ErrSyntax {
			t.Errorf("Decode of value %d = %v, %d", i, x, e)
		}
	}
	for _, s := range []string{"", "x", strings.Repeat("n", codec.MaxBytes+1)} {
		if _, e := certificate.Decode(s); e != api.ErrSyntax {
			t.Errorf("Decode = %d", e)
		}
	}
}

// P58.4, P58.5: orders and matchings.
func TestGraphs(t *testing.T) {
	r := rand.New(rand.NewSource(1))
	for range 2000 {
		n := 1 + r.Intn(5)
		c := claim{Kind: certificate.NoOrder, Count: n}
		for range r.Intn(7) {
			c.Pairs = append(c.Pairs, [2]int{r.Intn(n), r.Intn(n)})
		}
		x, e := certificate.Make(c)
		if has := hasOrder(c); has != (e == api.ErrNone) || !has && !certificate.Proves(c, x) {
			t.Fatalf("Make(%v) = %v, %d", c, x, e)
		}
		c = claim{Kind: certificate.NoMore, Left: r.Intn(5), Right: r.Intn(5)}
		for l := range c.Left {
			for k := range c.Right {
				if r.Intn(2) == 0 {
					c.Edges = append(c.Edges, api.Edge{Left: l, Right: k, Cost: int64(r.Intn(9))})
				}
			}
		}
		g := assign.Graph{Left: c.Left, Right: c.Right, Edges: c.Edges}
		match, _ := assign.Greatest(g)
		size := len(match) - len(slices.DeleteFunc(slices.Clone(match), func(n int) bool { return n >= 0 }))
		c.Value = int64(r.Intn(6) - 1)
		x, e = certificate.Make(c)
		if isTrue := int64(size) <= c.Value; isTrue != (e == api.OK) || isTrue && !certificate.Proves(c, x) {
			t.Fatalf("Make(%v) = %v, %d", c, x, e)
		}
		c.Kind = certificate.NoCheaper
		_, cost, f := assign.Cheapest(g)
		c.Value = cost + int64(r.Intn(3)-1)
		x, e = certificate.Make(c)
		isTrue := c.Value <= cost
		if f != api.OK { // each left node that is not matched adds the greatest price
			isTrue = true
			c.Value = int64(len(match)-size) * assign.MaxPrice
			x, e = certificate.Make(c)
		}
		if isTrue != (e == api.OK) || isTrue && !certificate.Proves(c, x) {
			t.Fatalf("Make(%v) = %v, %d; the least cost is %d, %d", c, x, e, cost, f)
		}
	}
	// Two left nodes want the same right node: the cheaper edge counts, too.
	c := claim{Kind: certificate.NoCheaper, Left: 3, Right: 2, Edges: edges([3]int{0, 0, 5}, [3]int{1, 0, 3}, [3]int{2, 0, 1}, [3]int{2, 1, 9}), Value: assign.MaxPrice + 12}
	if x, e := certificate.Make(c); e != api.OK || !certificate.Proves(c, x) {
		t.Errorf("Make = %v, %d", x, e)
	}
	c.Value++
	if x, e := certificate.Make(c); e != api.ErrNone {
		t.Errorf("Make = %v, %d", x, e)
	}
}

// hasOrder tries all orders.
func hasOrder(c claim) bool {
	var try func(order []int) bool
	try = func(order []int) bool {
		if len(order) == c.Count {
			return !slices.ContainsFunc(c.Pairs, func(p [2]int) bool { return slices.Index(order, p[0]) >= slices.Index(order, p[1]) })
		}
		for n := range c.Count {
			if !slices.Contains(order, n) && try(append(slices.Clone(order), n)) {
				return true
			}
		}
		return false
	}
	return try(nil)
}

// P58.4, P58.5: blocks, plans, rows and schedules.
func TestOthers(t *testing.T) {
	r := rand.New(rand.NewSource(2))
	for range 300 {
		s := site()
		s.Survey.Open = [4]bool{r.Intn(2) == 0, r.Intn(2) == 0, r.Intn(2) == 0, r.Intn(2) == 0}
		s.Blocks = slices.DeleteFunc(s.Blocks, func(api.Block) bool { return r.Intn(4) == 0 })
		var taken []string
		for front, _ := support.Frontier(s, nil); len(front) > 0; front, _ = support.Frontier(s, taken) {
			taken = append(taken, front[0])
		}
		for _, b := range s.Blocks {
			c := claim{Kind: certificate.NoFree, Site: s, Goal: b.Name}
			x, e := certificate.Make(c)
			if isTrue := !slices.Contains(taken, b.Name); isTrue != (e == api.OK) || isTrue && !certificate.Proves(c, x) {
				t.Fatalf("Make(%v) = %v, %d", c, x, e)
			}
		}
		c := claim{Kind: certificate.NoBetter, Size: api.Vec{X: 1 + r.Intn(4), Y: 1 + r.Intn(4), Z: 1 + r.Intn(3)}, Kerf: r.Intn(2)}
		for i := range r.Intn(3) {
			c.Items = append(c.Items, api.Item{Name: strconv.Itoa(i), Size: api.Vec{X: 1 + r.Intn(3), Y: 1 + r.Intn(3), Z: 1 + r.Intn(2)}, Value: int64(r.Intn(9))})
		}
		best, _, _ := boxpack.Best(boxpack.Problem{Size: c.Size, Kerf: c.Kerf, Items: c.Items})
		c.Value = best + int64(r.Intn(3)-1)
		x, e := certificate.Make(c)
		if isTrue := best <= c.Value; isTrue != (e == api.OK) || isTrue && !certificate.Proves(c, x) {
			t.Fatalf("Make(%v) = %v, %d", c, x, e)
		}
		checkRow(t, r)
		checkSchedule(t, r)
	}
}

func checkRow(t *testing.T, r *rand.Rand) {
	c := claim{Kind: certificate.NoClose, Joint: in(r.Intn(3), 2+r.Intn(3))}
	least, most := -c.Joint.Hi, -c.Joint.Lo
	for range 1 + r.Intn(4) {
		lo := 1 + r.Intn(5)
		c.Lengths = append(c.Lengths, in(lo, lo+r.Intn(3)))
		last := c.Lengths[len(c.Lengths)-1]
		least, most = least+last.Lo+c.Joint.Hi, most+last.Hi+c.Joint.Lo
	}
	c.Room = max(0, most+r.Intn(8)-2)
	x, e := certificate.Make(c)
	if isTrue := most > c.Room || least < c.Room; isTrue != (e == api.OK) || isTrue && !certificate.Proves(c, x) {
		t.Fatalf("Make(%v) = %v, %d", c, x, e)
	}
}

func checkSchedule(t *testing.T, r *rand.Rand) {
	works := []string{"polish", "saw"}
	c := claim{Kind: certificate.NoSooner, Machines: []api.Machine{{Name: "m", Work: works[0], Setup: r.Intn(3)}, {Name: "n", Work: works[1]}, {Name: "o", Work: works[r.Intn(2)]}}, Value: int64(r.Intn(40))}
	for i := range 1 + r.Intn(3) {
		j := api.Job{Name: "j" + strconv.Itoa(i), Release: r.Intn(5)}
		for range 1 + r.Intn(2) {
			j.Steps = append(j.Steps, api.Step{Work: works[r.Intn(2)], Minutes: 1 + r.Intn(9), Drying: r.Intn(3)})
		}
		c.Jobs = append(c.Jobs, j)
	}
	x, e := certificate.Make(c)
	slots, f := jobshop.Best(c.Machines, c.Jobs)
	if f != api.OK {
		return
	}
	end, _ := jobshop.End(c.Jobs, slots)
	if e == api.OK && (!certificate.Proves(c, x) || int64(end) < c.Value) || e != api.OK && e != api.ErrNone {
		t.Fatalf("Make(%v) = %v, %d; a schedule ends at %d", c, x, e, end)
	}
}
