package guillotine_test

import (
	"fmt"
	"math"
	"math/rand"
	"slices"
	"strings"
	"testing"

	"gangsaw/api"
	"gangsaw/guillotine"
)

const top = api.MaxCoord

func v(x, y, z int) api.Vec { return api.Vec{X: x, Y: y, Z: z} }

func bx(x, y, z, x2, y2, z2 int) api.Box { return api.Box{Min: v(x, y, z), Max: v(x2, y2, z2)} }

func waste() api.Node { return api.Node{Kind: api.Waste} }

func product(name string) api.Node { return api.Node{Kind: api.Product, Name: name} }

func offcut(name string) api.Node { return api.Node{Kind: api.Offcut, Name: name} }

func cut(axis, at, kerf, left, right int) api.Node {
	return api.Node{Kind: api.Cut, Axis: axis, At: at, Kerf: kerf, Left: left, Right: right}
}

// example is the plan of the chapter's examples, with its nodes in another order than that of the walk.
func example() (api.Vec, []api.Node) {
	return v(10, 4, 2), []api.Node{cut(0, 4, 1, 2, 1), cut(1, 2, 0, 4, 3), product("a"), waste(), offcut("b")}
}

const exampleText = "x4/1(p a;y2/0(o b;w))"

func leaf(kind int, name string, b api.Box) guillotine.Leaf {
	return guillotine.Leaf{Kind: kind, Name: name, Box: b}
}

// P24.1 to P24.5: the examples.
func TestExamples(t *testing.T) {
	size, plan := example()
	if e := guillotine.Check(size, plan); e != api.OK {
		t.Fatal(e)
	}
	leaves := []guillotine.Leaf{leaf(api.Product, "a", bx(0, 0, 0, 4, 4, 2)), leaf(api.Offcut, "b", bx(5, 0, 0, 10, 2, 2)), leaf(api.Waste, "", bx(5, 2, 0, 10, 4, 2))}
	if got, e := guillotine.Leaves(size, plan); !slices.Equal(got, leaves) || e != api.OK {
		t.Errorf("Leaves = %v, %d", got, e)
	}
	if got, e := guillotine.Kerfs(size, plan); !slices.Equal(got, []api.Box{bx(4, 0, 0, 5, 4, 2)}) || e != api.OK {
		t.Errorf("Kerfs = %v, %d", got, e)
	}
	if got, e := guillotine.Volumes(size, plan); got != [4]int64{32, 20, 20, 8} || e != api.OK {
		t.Errorf("Volumes = %v, %d", got, e)
	}
	if names, counts, e := guillotine.Counts(size, plan); !slices.Equal(names, []string{"a"}) || !slices.Equal(counts, []int{1}) || e != api.OK {
		t.Errorf("Counts = %v, %v, %d", names, counts, e)
	}
	if got, e := guillotine.Depth(size, plan); got != 2 || e != api.OK {
		t.Errorf("Depth = %d, %d", got, e)
	}
	if got, e := guillotine.Order(size, plan); !slices.Equal(got, []int{0, 1}) || e != api.OK {
		t.Errorf("Order = %v, %d", got, e)
	}
	normal := []api.Node{cut(0, 4, 1, 1, 2), product("a"), cut(1, 2, 0, 3, 4), offcut("b"), waste()}
	if got, e := guillotine.Normal(size, plan); !slices.Equal(got, normal) || e != api.OK {
		t.Errorf("Normal = %v, %d", got, e)
	}
	if got, e := guillotine.Text(size, plan); got != exampleText || e != api.OK {
		t.Errorf("Text = %q, %d", got, e)
	}
	if got, e := guillotine.Parse(size, exampleText); !slices.Equal(got, normal) || e != api.OK {
		t.Errorf("Parse = %v, %d", got, e)
	}
}

// P24.2, P24.3: plans of a single leaf.
func TestLeaf(t *testing.T) {
	size := v(2, 3, 4)
	for _, c := range []struct {
		n       api.Node
		text    string
		volumes [4]int64
	}{
		{waste(), "w", [4]int64{0, 0, 24, 0}}, {product("p"), "p p", [4]int64{24, 0, 0, 0}}, {offcut("w"), "o w", [4]int64{0, 24, 0, 0}},
	} {
		plan := []api.Node{c.n}
		text, e := guillotine.Text(size, plan)
		volumes, f := guillotine.Volumes(size, plan)
		if text != c.text || volumes != c.volumes || e != api.OK || f != api.OK {
			t.Errorf("%q, %d, %v, %d", text, e, volumes, f)
		}
		depth, e := guillotine.Depth(size, plan)
		order, f := guillotine.Order(size, plan)
		kerfs, g := guillotine.Kerfs(size, plan)
		if depth != 0 || len(order) != 0 || len(kerfs) != 0 || e != api.OK || f != api.OK || g != api.OK {
			t.Errorf("%d, %d, %v, %d, %v, %d", depth, e, order, f, kerfs, g)
		}
		leaves, _ := guillotine.Leaves(size, plan)
		if !slices.Equal(leaves, []guillotine.Leaf{leaf(c.n.Kind, c.n.Name, bx(0, 0, 0, 2, 3, 4))}) {
			t.Errorf("%v", leaves)
		}
	}
}

type refusal struct {
	size api.Vec
	plan []api.Node
	e    api.Errno
}

// refusals are plans that are not valid. Each kind of error stands beside later ones, too.
func refusals() []refusal {
	size, _ := example()
	with := func(change func(plan []api.Node)) []api.Node {
		_, plan := example()
		change(plan)
		return plan
	}
	node := func(i int, n api.Node) refusal {
		return refusal{size, with(func(plan []api.Node) { plan[i] = n }), api.ErrInvalid}
	}
	list := []refusal{
		{size, nil, api.ErrInvalid},
		{v(0, 4, 2), make([]api.Node, api.MaxNodes+1), api.ErrInvalid},
		{size, make([]api.Node, api.MaxNodes+1), api.ErrTooMany},
		node(3, api.Node{Kind: 4}), node(3, api.Node{Kind: -1}), node(3, api.Node{Kind: api.Waste, Name: "w"}),
		node(2, api.Node{Kind: api.Product, Name: "A", Axis: 1}), node(2, api.Node{Kind: api.Product, Name: "a", At: 1}), node(2, api.Node{Kind: api.Product, Name: "a", Kerf: 1}),
		node(4, api.Node{Kind: api.Offcut, Name: "a", Left: 1}), node(4, api.Node{Kind: api.Offcut, Name: "a", Right: -1}), node(3, api.Node{Kind: api.Waste, Axis: 2}),
		node(0, api.Node{Kind: api.Cut, Name: "a", At: 4, Left: 1, Right: 2, Kerf: -1}),
		node(0, cut(3, 4, -1, 2, 1)), node(0, cut(-1, 4, 1, 2, 1)), node(0, cut(math.MinInt, 4, 1, 2, 1)),
		node(0, cut(0, 4, -1, 0, 1)), node(0, cut(0, 4, 1, 2, 0)), node(0, cut(0, 4, 1, 5, 1)), node(0, cut(0, 4, 1, 2, 5)), node(0, cut(0, 4, 1, -1, 1)), node(0, cut(0, 4, 1, 2, math.MaxInt)),
		node(1, cut(1, 2, 0, 1, 3)), node(1, cut(1, 2, 0, 4, 0)),
		{size, with(func(plan []api.Node) { plan[0].Kerf, plan[2].Axis = -1, 1 }), api.ErrRange},
		{size, with(func(plan []api.Node) { plan[1].Kerf, plan[0].Left = 1001, 1 }), api.ErrRange},
		{size, with(func(plan []api.Node) { plan[1].Kerf = math.MinInt }), api.ErrRange},
		{size, with(func(plan []api.Node) { plan[2].Name, plan[4].Axis = "A", 1 }), api.ErrName},
		{size, with(func(plan []api.Node) { plan[4].Name, plan[0].Left = "", 1 }), api.ErrName},
		{size, with(func(plan []api.Node) { plan[4].Name = strings.Repeat("a", 25) }), api.ErrName},
		{size, with(func(plan []api.Node) { plan[0].Left, plan[0].At = 1, 0 }), api.ErrDuplicate},
		{size, with(func(plan []api.Node) { plan[1].Left, plan[1].At = 2, 0 }), api.ErrDuplicate},
		{size, with(func(plan []api.Node) { plan[1].Left = 3 }), api.ErrDuplicate},
		{size, append(with(func(plan []api.Node) { plan[0].At = 0 }), waste()), api.ErrInvalid},
		{size, []api.Node{waste(), waste()}, api.ErrInvalid},
	}
	for _, at := range []int{0, 9, 10, -1, math.MaxInt, math.MaxInt - 1, math.MinInt} {
		list = append(list, refusal{size, with(func(plan []api.Node) { plan[0].At = at }), api.ErrOutside})
	}
	for _, at := range []int{0, 4, 5} {
		list = append(list, refusal{size, with(func(plan []api.Node) { plan[1].At = at }), api.ErrOutside})
	}
	list = append(list, refusal{size, with(func(plan []api.Node) { plan[1].Axis, plan[1].At = 0, 5 }), api.ErrOutside}, refusal{size, with(func(plan []api.Node) { plan[1].Axis, plan[1].At, plan[1].Kerf = 0, 8, 2 }), api.ErrOutside})
	for _, s := range []api.Vec{v(0, 4, 2), v(10, 0, 2), v(10, 4, 0), v(top+1, 4, 2), v(10, top+1, 2), v(10, 4, top+1), v(-1, 4, 2), v(math.MinInt, math.MaxInt, 2), {}} {
		list = append(list, refusal{s, []api.Node{waste()}, api.ErrInvalid})
	}
	return list
}

// P24.1, P1: each error, and which one comes first.
func TestErrors(t *testing.T) {
	for i, c := range refusals() {
		if e := guillotine.Check(c.size, c.plan); e != c.e {
			t.Errorf("Check of refusal %d: %d, want %d", i, e, c.e)
		}
		leaves, e1 := guillotine.Leaves(c.size, c.plan)
		kerfs, e2 := guillotine.Kerfs(c.size, c.plan)
		volumes, e3 := guillotine.Volumes(c.size, c.plan)
		names, counts, e4 := guillotine.Counts(c.size, c.plan)
		depth, e5 := guillotine.Depth(c.size, c.plan)
		order, e6 := guillotine.Order(c.size, c.plan)
		normal, e7 := guillotine.Normal(c.size, c.plan)
		replaced, e8 := guillotine.Replace(c.size, c.plan, -1, nil)
		text, e9 := guillotine.Text(c.size, c.plan)
		for k, e := range []api.Errno{e1, e2, e3, e4, e5, e6, e7, e8, e9} {
			if e != c.e {
				t.Errorf("refusal %d, function %d: %d, want %d", i, k+1, e, c.e)
			}
		}
		if leaves != nil || kerfs != nil || volumes != [4]int64{} || names != nil || counts != nil || depth != 0 || order != nil || normal != nil || replaced != nil || text != "" {
			t.Errorf("refusal %d has results beside the error", i)
		}
	}
	if e := guillotine.Check(v(top, top, top), []api.Node{cut(2, top-1001, 1000, 1, 2), waste(), waste()}); e != api.OK {
		t.Errorf("Check of a great piece: %d", e)
	}
}

// chain is a plan of n cuts, each of which takes a slice of the length 1 off.
func chain(n int) (api.Vec, []api.Node) {
	var plan []api.Node
	for i := range n {
		plan = append(plan, cut(0, i+1, 0, 2*i+1, 2*i+2), product("a"))
	}
	return v(n+1, 1, 1), append(plan, waste())
}

// P1: as many nodes as are allowed, and more.
func TestCrowd(t *testing.T) {
	size, plan := chain(511)
	if e := guillotine.Check(size, plan); e != api.OK || len(plan) != 1023 {
		t.Fatalf("%d nodes: %d", len(plan), e)
	}
	if depth, e := guillotine.Depth(size, plan); depth != 511 || e != api.OK {
		t.Errorf("Depth = %d, %d", depth, e)
	}
	text, _ := guillotine.Text(size, plan)
	if got, e := guillotine.Parse(size, text); !slices.Equal(got, plan) || e != api.OK {
		t.Errorf("Parse: %d", e)
	}
	if names, counts, e := guillotine.Counts(size, plan); !slices.Equal(names, []string{"a"}) || counts[0] != 511 || e != api.OK {
		t.Errorf("Counts = %v, %v, %d", names, counts, e)
	}
	if got, e := guillotine.Replace(v(512, 2, 1), plan, 511, []api.Node{cut(1, 1, 0, 1, 2), waste(), waste()}); got != nil || e != api.ErrTooMany {
		t.Errorf("Replace with too many nodes: %d", e)
	}
	if got, e := guillotine.Replace(v(512, 2, 1), plan, 511, []api.Node{cut(1, 2, 0, 1, 2), waste(), waste()}); got != nil || e != api.ErrOutside {
		t.Errorf("Replace with a wrong plan: %d", e)
	}
	more := strings.Replace(text, "w", "x512/0(w;w)", 1)
	if got, e := guillotine.Parse(v(5, 1, 1), more); got != nil || e != api.ErrTooMany {
		t.Errorf("Parse of too many nodes: %d", e)
	}
	if got, e := guillotine.Parse(v(5, 1, 1), more+")"); got != nil || e != api.ErrSyntax {
		t.Errorf("Parse of too many nodes and a parenthesis: %d", e)
	}
	if got, e := guillotine.Parse(v(5, 1, 1), text); got != nil || e != api.ErrOutside {
		t.Errorf("Parse for another size: %d", e)
	}
	deep := strings.Repeat("x1/0(w;", 300000)
	if got, e := guillotine.Parse(size, deep); got != nil || e != api.ErrSyntax {
		t.Errorf("Parse of a deep text without an end: %d", e)
	}
	if got, e := guillotine.Parse(size, deep+"w"+strings.Repeat(")", 300000)); got != nil || e != api.ErrTooMany {
		t.Errorf("Parse of a deep text: %d", e)
	}
}

// P24.5
func TestParseErrors(t *testing.T) {
	size, _ := example()
	for _, s := range []string{
		"", " ", "w ", " w", "W", "ww", "w;w", "p", "p ", "pa", "p  a", "p a ", "p A", "p " + strings.Repeat("a", 25), "o", "o 1", "w a", "p a;", "p a)",
		"x", "x4", "x4/", "x4/1", "x4/1(", "x4/1(w", "x4/1(p a", "x4/1(w;p a", "x4/1()", "x4/1(w)", "x4/1(w;)", "x4/1(;w)", "x4/1(w;w", "x4/1(w;w;w)", "x4/1(w;w))", "x4/1(w,w)", "x4/1 (w;w)", "x 4/1(w;w)", "x4/1(w; w)",
		"x04/1(w;w)", "x4/01(w;w)", "x-4/1(w;w)", "x+4/1(w;w)", "x-0/1(w;w)", "x4/-1(w;w)", "x4/+1(w;w)", "x4/1001(w;w)", "x/1(w;w)", "x4/(w;w)", "x4(w;w)", "x4/1(w;w)w", "a4/1(w;w)", "4/1(w;w)", "X4/1(w;w)",
		"x9223372036854775808/1(w;w)", "x4/9223372036854775808(w;w)", "x4_0/1(w;w)", "x0x4/1(w;w)", "x4/1[w;w]", "(w;w)", "x4/1(x2/0(w;w);w", "x4/1(w;w)\n", "x0/1(w;v)", "x4/1(p a;p b;p c)", "x4/1(p a;p A)",
	} {
		if got, e := guillotine.Parse(size, s); got != nil || e != api.ErrSyntax {
			t.Errorf("Parse(%q) = %v, %d", s, got, e)
		}
	}
	for _, s := range []string{"x0/1(w;w)", "x9/1(w;w)", "x10/0(w;w)", "y3/1(w;w)", "z2/0(w;w)", "x4/1(x5/0(w;w);w)", "x4/1(w;x5/0(w;w))", "x9223372036854775807/1000(w;w)", "x4/1000(w;w)"} {
		if got, e := guillotine.Parse(size, s); got != nil || e != api.ErrOutside {
			t.Errorf("Parse(%q) = %v, %d", s, got, e)
		}
	}
	for _, c := range refusals() {
		if len(c.plan) == 1 && c.e == api.ErrInvalid {
			if got, e := guillotine.Parse(c.size, "?"); got != nil || e != api.ErrInvalid {
				t.Errorf("Parse for the size %v: %v, %d", c.size, got, e)
			}
		}
	}
}

// piece is a plan as a tree, with what is known of its nodes.
type piece struct {
	node        api.Node
	box, kerf   api.Box
	depth       int
	left, right *piece
}

func ends(b *api.Box, axis int) (lo, hi *int) {
	return []*int{&b.Min.X, &b.Min.Y, &b.Min.Z}[axis], []*int{&b.Max.X, &b.Max.Y, &b.Max.Z}[axis]
}

func grow(r *rand.Rand, b api.Box, depth int) *piece {
	p := &piece{node: [3]api.Node{waste(), product(string(rune('a' + r.Intn(3)))), offcut("o" + fmt.Sprint(r.Intn(3)))}[r.Intn(3)], box: b, depth: depth}
	axis, kerf := r.Intn(3), r.Intn(3)
	lo, hi := ends(&b, axis)
	if r.Intn(6) == 0 || *hi-*lo < kerf+2 {
		return p
	}
	at := *lo + 1 + r.Intn(*hi-*lo-kerf-1)
	p.node = cut(axis, at, kerf, 0, 0)
	left, right := b, b
	p.kerf = b
	_, end := ends(&left, axis)
	*end = at
	begin, _ := ends(&right, axis)
	*begin = at + kerf
	begin, end = ends(&p.kerf, axis)
	*begin, *end = at, at+kerf
	p.left, p.right = grow(r, left, depth+1), grow(r, right, depth+1)
	return p
}

func (p *piece) walk(visit func(p *piece)) {
	visit(p)
	if p.left != nil {
		p.left.walk(visit)
		p.right.walk(visit)
	}
}

func (p *piece) text() string {
	switch p.node.Kind {
	case api.Waste:
		return "w"
	case api.Product:
		return "p " + p.node.Name
	case api.Offcut:
		return "o " + p.node.Name
	}
	return fmt.Sprintf("%c%d/%d(%s;%s)", "xyz"[p.node.Axis], p.node.At, p.node.Kerf, p.left.text(), p.right.text())
}

// list returns the nodes in an order in which parts stand behind their cuts, and the pieces in this order.
func (p *piece) list(choose func(n int) int) ([]api.Node, []*piece) {
	var order []*piece
	place := map[*piece]int{}
	for ready := []*piece{p}; len(ready) > 0; {
		i := choose(len(ready))
		next := ready[i]
		ready = slices.Delete(ready, i, i+1)
		place[next] = len(order)
		order = append(order, next)
		if next.left != nil {
			ready = append(ready, next.right, next.left)
		}
	}
	var plan []api.Node
	for _, q := range order {
		n := q.node
		if q.left != nil {
			n.Left, n.Right = place[q.left], place[q.right]
		}
		plan = append(plan, n)
	}
	return plan, order
}

func last(n int) int { return n - 1 }

func volume(b api.Box) int64 {
	return int64(b.Max.X-b.Min.X) * int64(b.Max.Y-b.Min.Y) * int64(b.Max.Z-b.Min.Z)
}

// P24.1 to P24.6: random trees.
func TestAgainstTrees(t *testing.T) {
	r := rand.New(rand.NewSource(1))
	for range 1500 {
		size := v(1+r.Intn(12), 1+r.Intn(12), 1+r.Intn(12))
		tree := grow(r, api.Box{Max: size}, 0)
		plan, order := tree.list(r.Intn)
		if len(plan) > api.MaxNodes {
			continue
		}
		if e := guillotine.Check(size, plan); e != api.OK {
			t.Fatalf("Check(%v, %v) = %d", size, plan, e)
		}
		checkParts(t, size, plan, tree)
		checkOrder(t, size, plan, tree, order)
		normal, _ := tree.list(last)
		if got, e := guillotine.Normal(size, plan); !slices.Equal(got, normal) || e != api.OK {
			t.Fatalf("Normal(%v, %v) = %v, %d", size, plan, got, e)
		}
		if got, e := guillotine.Text(size, plan); got != tree.text() || e != api.OK {
			t.Fatalf("Text(%v, %v) = %q, %d", size, plan, got, e)
		}
		if got, e := guillotine.Parse(size, tree.text()); !slices.Equal(got, normal) || e != api.OK {
			t.Fatalf("Parse(%v, %q) = %v, %d", size, tree.text(), got, e)
		}
		checkReplace(t, r, size, plan, tree)
	}
}

func checkParts(t *testing.T, size api.Vec, plan []api.Node, tree *piece) {
	t.Helper()
	var leaves []guillotine.Leaf
	var kerfs []api.Box
	var volumes [4]int64
	counts := map[string]int{}
	tree.walk(func(p *piece) {
		if p.left == nil {
			leaves = append(leaves, leaf(p.node.Kind, p.node.Name, p.box))
			volumes[map[int]int{api.Product: 0, api.Offcut: 1, api.Waste: 2}[p.node.Kind]] += volume(p.box)
			if p.node.Kind == api.Product {
				counts[p.node.Name]++
			}
		} else if p.node.Kerf > 0 {
			kerfs = append(kerfs, p.kerf)
			volumes[3] += volume(p.kerf)
		}
	})
	if got, e := guillotine.Leaves(size, plan); !slices.Equal(got, leaves) || e != api.OK {
		t.Fatalf("Leaves(%v, %v) = %v, %d", size, plan, got, e)
	}
	if got, e := guillotine.Kerfs(size, plan); !slices.Equal(got, kerfs) || e != api.OK {
		t.Fatalf("Kerfs(%v, %v) = %v, %d", size, plan, got, e)
	}
	got, e := guillotine.Volumes(size, plan)
	if got != volumes || e != api.OK || got[0]+got[1]+got[2]+got[3] != volume(api.Box{Max: size}) {
		t.Fatalf("Volumes(%v, %v) = %v, %d", size, plan, got, e)
	}
	names, n, e := guillotine.Counts(size, plan)
	if len(names) != len(counts) || len(n) != len(counts) || !slices.IsSorted(names) || e != api.OK {
		t.Fatalf("Counts(%v, %v) = %v, %v, %d", size, plan, names, n, e)
	}
	for i, name := range names {
		if n[i] != counts[name] {
			t.Fatalf("Counts(%v, %v) = %v, %v", size, plan, names, n)
		}
	}
}

func checkOrder(t *testing.T, size api.Vec, plan []api.Node, tree *piece, list []*piece) {
	t.Helper()
	depth := 0
	tree.walk(func(p *piece) { depth = max(depth, p.depth) })
	if got, e := guillotine.Depth(size, plan); got != depth || e != api.OK {
		t.Fatalf("Depth(%v, %v) = %d, %d", size, plan, got, e)
	}
	var want []int
	for d := range depth {
		tree.walk(func(p *piece) {
			if p.left != nil && p.depth == d {
				want = append(want, slices.Index(list, p))
			}
		})
	}
	if got, e := guillotine.Order(size, plan); !slices.Equal(got, want) || e != api.OK {
		t.Fatalf("Order(%v, %v) = %v, %d, want %v", size, plan, got, e, want)
	}
}

// checkReplace replaces a leaf by a plan in the leaf's own frame.
func checkReplace(t *testing.T, r *rand.Rand, size api.Vec, plan []api.Node, tree *piece) {
	t.Helper()
	var leaves []*piece
	tree.walk(func(p *piece) {
		if p.left == nil {
			leaves = append(leaves, p)
		}
	})
	i := r.Intn(len(leaves))
	p := leaves[i]
	own := v(p.box.Max.X-p.box.Min.X, p.box.Max.Y-p.box.Min.Y, p.box.Max.Z-p.box.Min.Z)
	part := grow(r, api.Box{Max: own}, 0)
	nodes, _ := part.list(r.Intn)
	if len(plan)+len(nodes) > api.MaxNodes {
		return
	}
	part.walk(func(q *piece) {
		if q.left != nil {
			lo, _ := ends(&p.box, q.node.Axis)
			q.node.At += *lo
		}
	})
	old := *p
	p.node, p.left, p.right = part.node, part.left, part.right
	want, _ := tree.list(last)
	*p = old
	before := slices.Clone(plan)
	got, e := guillotine.Replace(size, plan, i, nodes)
	if !slices.Equal(got, want) || e != api.OK || !slices.Equal(plan, before) {
		t.Fatalf("Replace(%v, %v, %d, %v) = %v, %d, want %v", size, plan, i, nodes, got, e, want)
	}
	for _, n := range []int{-1, len(leaves), math.MaxInt, math.MinInt} {
		if got, e := guillotine.Replace(size, plan, n, nil); got != nil || e != api.ErrNone {
			t.Fatalf("Replace of the leaf %d: %v, %d", n, got, e)
		}
	}
	if got, e := guillotine.Replace(size, plan, i, nil); got != nil || e != api.ErrInvalid {
		t.Fatalf("Replace by nothing: %v, %d", got, e)
	}
}

// P24.4: cuts of the part are moved to the place of the leaf.
func TestReplace(t *testing.T) {
	size, plan := example()
	got, e := guillotine.Replace(size, plan, 2, []api.Node{cut(1, 1, 0, 2, 1), cut(0, 2, 1, 3, 4), product("c"), product("d"), waste()})
	if text, f := guillotine.Text(size, got); text != "x4/1(p a;y2/0(o b;y3/0(p c;x7/1(p d;w))))" || e != api.OK || f != api.OK {
		t.Errorf("Replace: %q, %d, %d", text, e, f)
	}
	got, e = guillotine.Replace(size, plan, 0, []api.Node{cut(2, 1, 0, 1, 2), waste(), product("c")})
	if text, f := guillotine.Text(size, got); text != "x4/1(z1/0(w;p c);y2/0(o b;w))" || e != api.OK || f != api.OK {
		t.Errorf("Replace: %q, %d, %d", text, e, f)
	}
	for _, c := range []struct {
		part []api.Node
		e    api.Errno
	}{
		{[]api.Node{cut(0, 5, 0, 1, 2), waste(), waste()}, api.ErrOutside}, {[]api.Node{product("A")}, api.ErrName}, {make([]api.Node, api.MaxNodes+1), api.ErrTooMany}, {make([]api.Node, api.MaxNodes), api.ErrInvalid},
	} {
		if got, e := guillotine.Replace(size, plan, 2, c.part); got != nil || e != c.e {
			t.Errorf("Replace by %v: %v, %d", c.part, got, e)
		}
	}
}

// P1, P24.5, P24.6: whatever is parsed is valid and has its text.
func FuzzParse(f *testing.F) {
	f.Add(exampleText)
	f.Add("x4/1(w;")
	f.Add("p a)")
	f.Fuzz(func(t *testing.T, s string) {
		size := v(50, 50, 50)
		plan, e := guillotine.Parse(size, s)
		if e != api.OK {
			if plan != nil {
				t.Fatalf("Parse(%q) = %v, %d", s, plan, e)
			}
			return
		}
		if text, e := guillotine.Text(size, plan); text != s || e != api.OK {
			t.Fatalf("Parse(%q) = %v, whose text is %q, %d", s, plan, text, e)
		}
	})
}
