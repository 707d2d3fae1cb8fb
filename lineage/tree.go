package lineage

import (
	"cmp"
	"slices"
	"strconv"
	"strings"

	"gangsaw/api"
	"gangsaw/box"
	"gangsaw/lexer"
	"gangsaw/orient"
)

const (
	maxId = 60
	point = "."
)

// tree is a valid lineage with the indices of its pieces by their ids.
type tree struct {
	list []api.Piece
	at   map[string]int
}

// grow returns the tree of a lineage, or the first error.
func grow(list []api.Piece) (tree, api.Errno) {
	switch {
	case len(list) > api.MaxPieces:
		return tree{}, api.ErrTooMany
	case slices.ContainsFunc(list, func(p api.Piece) bool { return !isId(p.Id) }):
		return tree{}, api.ErrName
	}
	at := make(map[string]int, len(list))
	for i, p := range list {
		if _, found := at[p.Id]; found {
			return tree{}, api.ErrDuplicate
		}
		at[p.Id] = i
	}
	for i, p := range list {
		if parent, found := at[p.Parent]; p.Parent != "" && (!found || parent >= i) {
			return tree{}, api.ErrUnknown
		}
	}
	if slices.ContainsFunc(list, func(p api.Piece) bool { return !isPlaced(p) }) {
		return tree{}, api.ErrInvalid
	}
	isOutside := func(p api.Piece) bool {
		return p.Parent != "" && !box.Inside(p.Box, api.Box{Max: sizeOf(list[at[p.Parent]])})
	}
	switch {
	case slices.ContainsFunc(list, isOutside):
		return tree{}, api.ErrOutside
	case overlap(list):
		return tree{}, api.ErrOverlap
	}
	return tree{list, at}, api.OK
}

// find returns the tree of a lineage and the index of a piece, or the first error.
func find(list []api.Piece, id string) (tree, int, api.Errno) {
	t, e := grow(list)
	if e != api.OK {
		return tree{}, 0, e
	}
	i, found := t.at[id]
	if !found {
		return tree{}, 0, api.ErrUnknown
	}
	return t, i, api.OK
}

// pose returns the pose of a piece in the quarry. It never leaves the range, since places lie in the box of their block.
func (t tree) pose(i int) api.Pose {
	var inQuarry func(i int) api.Pose
	inQuarry = func(i int) api.Pose {
		p := t.list[i]
		if p.Parent == "" {
			return p.Pose
		}
		whole, _ := orient.Join(inQuarry(t.at[p.Parent]), p.Pose)
		return whole
	}
	return inQuarry(i)
}

func (t tree) way(i int) []string {
	way := []string{t.list[i].Id}
	for parent := t.list[i].Parent; parent != ""; parent = t.list[t.at[parent]].Parent {
		way = append(way, parent)
	}
	return way
}

// kids returns the pieces with a parent, in their order.
func (t tree) kids(id string) []api.Piece {
	var kids []api.Piece
	for _, p := range t.list {
		if p.Parent == id {
			kids = append(kids, p)
		}
	}
	return kids
}

func isId(s string) bool {
	parts := strings.Split(s, point)
	isNumber := func(s string) bool {
		n, err := strconv.Atoi(s)
		return err == nil && n >= 1 && n <= api.MaxNodes && strconv.Itoa(n) == s
	}
	return len(s) <= maxId && lexer.Name(parts[0]) && !slices.ContainsFunc(parts[1:], func(s string) bool { return !isNumber(s) })
}

// isPlaced reports whether a piece has a valid box and the right pose. (Place refuses the sizes and places of other boxes.)
func isPlaced(p api.Piece) bool {
	right, e := orient.Place(p.Pose.Turn, sizeOf(p), p.Box.Min)
	return e == api.OK && right == p.Pose
}

// sizeOf returns the size of a piece in its own frame; the zero size, if its turn is none.
func sizeOf(p api.Piece) api.Vec {
	back, _ := orient.Invert(p.Pose.Turn)
	size, _ := orient.Size(back, box.Size(p.Box))
	return size
}

// overlap reports whether two pieces with the same parent overlap.
func overlap(list []api.Piece) bool {
	sorted := slices.SortedFunc(slices.Values(list), func(a, b api.Piece) int {
		return cmp.Or(cmp.Compare(a.Parent, b.Parent), cmp.Compare(a.Box.Min.X, b.Box.Min.X))
	})
	for i, a := range sorted {
		for _, b := range sorted[i+1:] {
			if b.Parent != a.Parent || b.Box.Min.X >= a.Box.Max.X {
				break
			}
			if box.Overlap(a.Box, b.Box) {
				return true
			}
		}
	}
	return false
}
