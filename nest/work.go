package nest

import (
	"slices"
	"strconv"

	"gangsaw/api"
	"gangsaw/box"
	"gangsaw/guillotine"
	"gangsaw/orient"
)

// free is a free box of a block: the node of the plan that it still is.
type free struct {
	node int
	box  api.Box
}

// work is a block while stones are cut from it.
type work struct {
	block api.Block
	kerf  int
	plan  []api.Node
	free  []free
	turns map[string]int // of the stones that were cut, by their names
	sizes map[string]api.Vec
}

func newWork(b api.Block, kerf int) *work {
	whole := free{box: api.Box{Max: box.Size(b.Box)}}
	return &work{block: b, kerf: kerf, plan: []api.Node{rest()}, free: []free{whole}, turns: map[string]int{}, sizes: map[string]api.Vec{}}
}

func rest() api.Node { return api.Node{Kind: api.Offcut, Name: Rest} }

// take cuts a stone from the first free box into which it fits, if there is one.
func (k *work) take(w Wanted) bool {
	turns, _ := orient.List(w.Bed)
	for i, f := range k.free {
		fits := func(turn int) bool {
			s, _ := orient.Size(turn, w.Size)
			return k.fits(f.box, s)
		}
		t := slices.IndexFunc(turns, fits)
		if t < 0 {
			continue
		}
		s, _ := orient.Size(turns[t], w.Size)
		k.free = slices.Replace(k.free, i, i+1, k.cut(f, s, w.Name)...)
		k.turns[w.Name], k.sizes[w.Name] = turns[t], w.Size
		return true
	}
	return false
}

// fits reports whether a stone with sides behind its turn fits into a free box: each side is that of the box, or leaves more than a kerf.
func (k *work) fits(b api.Box, s api.Vec) bool {
	lo, hi := ends(&b)
	for axis, side := range [3]int{s.X, s.Y, s.Z} {
		if length := *hi[axis] - *lo[axis]; length != side && length <= side+k.kerf {
			return false
		}
	}
	return true
}

// cut cuts a stone from a free box, and returns the rests.
func (k *work) cut(f free, s api.Vec, name string) []free {
	var rests []free
	for axis, side := range [3]int{s.X, s.Y, s.Z} {
		lo, hi := ends(&f.box)
		at := *lo[axis] + side
		if *hi[axis] == at {
			continue
		}
		left := len(k.plan)
		k.plan[f.node] = api.Node{Kind: api.Cut, Axis: axis, At: at, Kerf: k.kerf, Left: left, Right: left + 1}
		k.plan = append(k.plan, rest(), rest())
		behind := free{node: left + 1, box: f.box}
		behindLo, _ := ends(&behind.box)
		*behindLo[axis] = at + k.kerf
		rests = append(rests, behind)
		*hi[axis] = at
		f.node = left
	}
	k.plan[f.node] = api.Node{Kind: api.Product, Name: name}
	return rests
}

// cutting returns the plan in the order of its walk, and the pieces.
func (k *work) cutting() Cutting {
	size := box.Size(k.block.Box)
	plan, _ := guillotine.Normal(size, k.plan)
	pieces := []api.Piece{{Id: k.block.Name, Pose: api.Pose{Shift: k.block.Box.Min}, Box: k.block.Box}}
	for i, l := range products(size, plan) {
		pose, _ := orient.Place(k.turns[l.Name], k.sizes[l.Name], l.Box.Min)
		pieces = append(pieces, api.Piece{Id: pieceId(k.block.Name, i), Parent: k.block.Name, Pose: pose, Box: l.Box})
	}
	return Cutting{Block: k.block.Name, Plan: plan, Pieces: pieces}
}

// pieceId returns the id of the piece for a product of a block, from 0 on.
func pieceId(block string, product int) string { return block + "." + strconv.Itoa(product+1) }

// ends returns the coordinates of the ends of a box, by axes.
func ends(b *api.Box) (lo, hi [3]*int) {
	return [3]*int{&b.Min.X, &b.Min.Y, &b.Min.Z}, [3]*int{&b.Max.X, &b.Max.Y, &b.Max.Z}
}
