package precedence

import (
	"slices"

	"gangsaw/api"
	"gangsaw/hold"
	"gangsaw/support"
)

// Must returns the blocks that have to be taken before a block, in every order of freeing: sorted names.
func Must(s api.Site, taken []string, block string) ([]string, api.Errno) {
	greatest, e := greatestSets(s, taken)
	if e != api.OK {
		return nil, e
	}
	switch {
	case !slices.ContainsFunc(s.Blocks, func(b api.Block) bool { return b.Name == block }):
		return nil, api.ErrUnknown
	case slices.Contains(taken, block):
		return nil, api.ErrState
	}
	all := greatest("")
	if !all[block] {
		return nil, api.ErrConflict
	}
	var names []string
	for _, b := range s.Blocks {
		if b.Name != block && !slices.Contains(taken, b.Name) && !greatest(b.Name)[block] {
			names = append(names, b.Name)
		}
	}
	return names, api.OK
}

// Of returns the graph of the blocks of a site that can be freed, by their indices in s.Blocks.
func Of(s api.Site, taken []string) (Graph, api.Errno) {
	greatest, e := greatestSets(s, taken)
	if e != api.OK {
		return Graph{}, e
	}
	all := greatest("")
	g := Graph{Count: len(s.Blocks)}
	for i, b := range s.Blocks {
		if !all[b.Name] || slices.Contains(taken, b.Name) {
			continue
		}
		without := greatest(b.Name)
		for k, later := range s.Blocks {
			if k != i && all[later.Name] && !without[later.Name] {
				g.Edges = append(g.Edges, [2]int{i, k})
			}
		}
	}
	return g, api.OK
}

// greatestSets checks a site and taken blocks, and returns the function that builds the greatest set without a block. (No block has an empty name.)
func greatestSets(s api.Site, taken []string) (func(without string) map[string]bool, api.Errno) {
	if _, e := support.Frontier(s, taken); e != api.OK {
		return nil, e
	}
	holds := hold.All(s)
	return func(without string) map[string]bool {
		set := map[string]bool{}
		for _, name := range taken {
			set[name] = true
		}
		for grown := true; grown; {
			grown = false
			for _, h := range holds {
				if kind, _ := h.Why(set); kind == hold.Possible && h.Name() != without {
					set[h.Name()] = true
					grown = true
				}
			}
		}
		return set
	}, api.OK
}
