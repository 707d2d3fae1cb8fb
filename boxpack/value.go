package boxpack

import "gangsaw/api"

// extent is the box of a node: where it begins and ends, by axes.
type extent struct {
	from, to size
}

// Value returns the value of a plan, or the first error of a plan that is none of the problem.
func Value(p Problem, plan []api.Node) (int64, api.Errno) {
	if e := Check(p); e != api.OK {
		return 0, e
	}
	if len(plan) > api.MaxNodes {
		return 0, api.ErrTooMany
	}
	if !isPlan(plan) {
		return 0, api.ErrInvalid
	}
	// Parts come after their cut, so that the box of each node is known when its turn comes.
	boxes := make([]extent, len(plan))
	boxes[0].to = sizeOf(p.Size)
	var value int64
	for i, n := range plan {
		switch n.Kind {
		case api.Product:
			v, e := valueIn(p, n.Name, boxes[i])
			if e != api.OK {
				return 0, e
			}
			value += v
		case api.Cut:
			b := boxes[i]
			if n.Kerf != p.Kerf || n.At <= b.from[n.Axis] || n.At >= b.to[n.Axis]-n.Kerf {
				return 0, api.ErrRange
			}
			boxes[n.Left], boxes[n.Right] = b, b
			boxes[n.Left].to[n.Axis] = n.At
			boxes[n.Right].from[n.Axis] = n.At + n.Kerf
		}
	}
	return value, api.OK
}

// valueIn returns the value of the item with a name, if it fits into a box.
func valueIn(p Problem, name string, b extent) (int64, api.Errno) {
	i := itemIndex(p.Items, name)
	if i < 0 {
		return 0, api.ErrUnknown
	}
	var room size
	for axis := range room {
		room[axis] = b.to[axis] - b.from[axis]
	}
	if !sizeOf(p.Items[i].Size).fits(room) {
		return 0, api.ErrOutside
	}
	return p.Items[i].Value, api.OK
}

// isPlan reports whether nodes are a tree of well-formed leaves and cuts.
func isPlan(plan []api.Node) bool {
	if len(plan) == 0 {
		return false
	}
	isPart := make([]bool, len(plan))
	parts := 0
	claim := func(part, cut int) bool {
		if part <= cut || part >= len(plan) || isPart[part] {
			return false
		}
		isPart[part] = true
		parts++
		return true
	}
	for i, n := range plan {
		switch n.Kind {
		case api.Waste, api.Product, api.Offcut:
			if n != (api.Node{Kind: n.Kind, Name: n.Name}) || n.Kind == api.Waste && n.Name != "" {
				return false
			}
		case api.Cut:
			if n.Name != "" || n.Axis < api.AxisX || n.Axis > api.AxisZ || !claim(n.Left, i) || !claim(n.Right, i) {
				return false
			}
		default:
			return false
		}
	}
	return parts == len(plan)-1
}
