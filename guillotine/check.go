package guillotine

import (
	"gangsaw/api"
	"gangsaw/lexer"
)

const maxKerf = 1000

// Check returns OK for a valid plan of a piece of a size, or the first error.
func Check(size api.Vec, plan []api.Node) api.Errno {
	if !isSize(size) || len(plan) == 0 {
		return api.ErrInvalid
	}
	if len(plan) > api.MaxNodes {
		return api.ErrTooMany
	}
	for i, n := range plan {
		if e := checkNode(n, i, len(plan)); e != api.OK {
			return e
		}
	}
	if e := checkTree(plan); e != api.OK {
		return e
	}
	return checkCuts(size, plan)
}

func isSize(size api.Vec) bool {
	return min(size.X, size.Y, size.Z) >= 1 && max(size.X, size.Y, size.Z) <= api.MaxCoord
}

// checkNode checks the node with an index in a plan of so many nodes.
func checkNode(n api.Node, index, count int) api.Errno {
	switch n.Kind {
	case api.Waste, api.Product, api.Offcut:
		return checkLeaf(n)
	case api.Cut:
		isPart := func(i int) bool { return i > index && i < count }
		switch {
		case n.Name != "" || n.Axis < api.AxisX || n.Axis > api.AxisZ || !isPart(n.Left) || !isPart(n.Right):
			return api.ErrInvalid
		case n.Kerf < 0 || n.Kerf > maxKerf:
			return api.ErrRange
		}
		return api.OK
	}
	return api.ErrInvalid
}

func checkLeaf(n api.Node) api.Errno {
	switch {
	case n != api.Node{Kind: n.Kind, Name: n.Name} || n.Kind == api.Waste && n.Name != "":
		return api.ErrInvalid
	case n.Kind != api.Waste && !lexer.Name(n.Name):
		return api.ErrName
	}
	return api.OK
}

// checkTree checks that each node but the first one is a part once. (Parts stand behind their cuts, so that the first one is no part.)
func checkTree(plan []api.Node) api.Errno {
	isPart := make([]bool, len(plan))
	for _, n := range plan {
		if n.Kind != api.Cut {
			continue
		}
		for _, i := range [2]int{n.Left, n.Right} {
			if isPart[i] {
				return api.ErrDuplicate
			}
			isPart[i] = true
		}
	}
	for _, is := range isPart[1:] {
		if !is {
			return api.ErrInvalid
		}
	}
	return api.OK
}

// checkCuts checks that each cut of a tree leaves something on both sides.
func checkCuts(size api.Vec, plan []api.Node) api.Errno {
	for v := range walk(size, plan) {
		n := plan[v.node]
		lo := [3]int{v.box.Min.X, v.box.Min.Y, v.box.Min.Z}
		hi := [3]int{v.box.Max.X, v.box.Max.Y, v.box.Max.Z}
		if n.Kind == api.Cut && (n.At <= lo[n.Axis] || n.At >= hi[n.Axis]-n.Kerf) {
			return api.ErrOutside
		}
	}
	return api.OK
}
