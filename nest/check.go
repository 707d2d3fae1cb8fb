package nest

import (
	"slices"

	"gangsaw/api"
	"gangsaw/box"
	"gangsaw/guillotine"
	"gangsaw/lexer"
	"gangsaw/lineage"
	"gangsaw/orient"
)

// Check returns OK for an order, or the first error.
func Check(o Order) api.Errno {
	if len(o.Blocks) > MaxBlocks || len(o.Wanted) > MaxWanted {
		return api.ErrTooMany
	}
	if e := checkParts(o.Blocks, o.Wanted); e != api.OK {
		return e
	}
	if o.Kerf < 0 || o.Kerf > MaxKerf {
		return api.ErrRange
	}
	names := map[string]int{}
	for _, b := range o.Blocks {
		names[b.Name]++
	}
	stones := map[string]int{}
	for _, w := range o.Wanted {
		stones[w.Name]++
	}
	switch {
	case len(names) < len(o.Blocks) || len(stones) < len(o.Wanted):
		return api.ErrDuplicate
	case slices.ContainsFunc(o.Blocks, isHuge):
		return api.ErrOutside
	}
	return api.OK
}

// checkParts checks blocks and stones alone.
func checkParts(blocks []api.Block, wanted []Wanted) api.Errno {
	if slices.ContainsFunc(blocks, func(b api.Block) bool { return !lexer.Name(b.Name) }) || slices.ContainsFunc(wanted, func(w Wanted) bool { return !lexer.Name(w.Name) }) {
		return api.ErrName
	}
	for _, b := range blocks {
		if e := box.Check(b.Box); e != api.OK {
			return e
		}
	}
	isOutOfRange := func(w Wanted) bool {
		return min(w.Size.X, w.Size.Y, w.Size.Z) < 1 || max(w.Size.X, w.Size.Y, w.Size.Z) > api.MaxCoord || w.Bed < api.BedAny || w.Bed > api.BedEdge
	}
	if slices.ContainsFunc(wanted, isOutOfRange) {
		return api.ErrRange
	}
	return api.OK
}

// isHuge reports whether a side of a block is longer than a plan can have it.
func isHuge(b api.Block) bool {
	s := box.Size(b.Box)
	return max(s.X, s.Y, s.Z) > api.MaxCoord
}

// Verify returns OK if cuttings are right for an order, or the first error.
func Verify(o Order, list []Cutting) api.Errno {
	if e := Check(o); e != api.OK {
		return e
	}
	blocks := map[string]api.Block{}
	for _, b := range o.Blocks {
		blocks[b.Name] = b
	}
	for _, c := range list {
		if _, isKnown := blocks[c.Block]; !isKnown {
			return api.ErrUnknown
		}
	}
	for i, c := range list {
		if slices.ContainsFunc(list[:i], func(d Cutting) bool { return d.Block == c.Block }) {
			return api.ErrDuplicate
		}
	}
	for _, c := range list {
		if e := guillotine.Check(box.Size(blocks[c.Block].Box), c.Plan); e != api.OK {
			return e
		}
	}
	stones := map[string]Wanted{}
	for _, w := range o.Wanted {
		stones[w.Name] = w
	}
	if e := checkPlans(o, list, stones); e != api.OK {
		return e
	}
	for _, c := range list {
		if e := lineage.Check(c.Pieces); e != api.OK {
			return e
		}
	}
	return checkPieces(blocks, list, stones)
}

// checkPlans checks the kerfs and the products of valid plans.
func checkPlans(o Order, list []Cutting, stones map[string]Wanted) api.Errno {
	var products []string
	for _, c := range list {
		for _, n := range c.Plan {
			if n.Kind == api.Cut && n.Kerf != o.Kerf {
				return api.ErrConflict
			}
			if n.Kind == api.Product {
				products = append(products, n.Name)
			}
		}
	}
	isUnknown := func(name string) bool {
		_, isKnown := stones[name]
		return !isKnown
	}
	if slices.ContainsFunc(products, isUnknown) {
		return api.ErrUnknown
	}
	slices.Sort(products)
	for i := 1; i < len(products); i++ {
		if products[i-1] == products[i] {
			return api.ErrDuplicate
		}
	}
	return api.OK
}

// checkPieces checks the pieces of cuttings, which are lineages, against their plans. (Lineages have the right poses for the turns of their pieces.)
func checkPieces(blocks map[string]api.Block, list []Cutting, stones map[string]Wanted) api.Errno {
	isForbidden := false
	for _, c := range list {
		b := blocks[c.Block]
		leaves := products(box.Size(b.Box), c.Plan)
		whole := api.Piece{Id: b.Name, Pose: api.Pose{Shift: b.Box.Min}, Box: b.Box}
		if len(c.Pieces) != len(leaves)+1 || c.Pieces[0] != whole {
			return api.ErrInvalid
		}
		for i, l := range leaves {
			p, w := c.Pieces[i+1], stones[l.Name]
			size, _ := orient.Size(p.Pose.Turn, w.Size)
			if p.Id != pieceId(b.Name, i) || p.Parent != b.Name || p.Box != l.Box || size != box.Size(l.Box) {
				return api.ErrInvalid
			}
			isForbidden = isForbidden || !orient.Allowed(w.Bed, p.Pose.Turn)
		}
	}
	if isForbidden {
		return api.ErrConflict
	}
	return api.OK
}
