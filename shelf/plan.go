package shelf

import (
	"slices"
	"strconv"

	"gangsaw/api"
)

// Plan returns the cutting plan of a layout of a plate of a thickness.
func Plan(parts []Part, w, h, kerf int, l Layout) ([]api.Node, api.Errno) {
	packed, e := Pack(parts, w, h, kerf)
	if e != api.OK {
		return nil, e
	}
	if !slices.Equal(packed.Places, l.Places) || !slices.Equal(packed.Left, l.Left) {
		return nil, api.ErrInvalid
	}
	return plan(parts, w, h, kerf, packed.Places), api.OK
}

// plan returns the cutting plan of places, in preorder.
func plan(parts []Part, w, h, kerf int, places []Place) []api.Node {
	var list []api.Node
	offcuts := 0
	leaf := func(kind int, name string) { list = append(list, api.Node{Kind: kind, Name: name}) }
	offcut := func() {
		offcuts++
		leaf(api.Offcut, "o"+strconv.Itoa(offcuts))
	}
	// cut separates what is before a position from what is behind it, if there is more than a kerf up to the end.
	cut := func(axis, at, end int, before, behind func()) {
		if end-at <= kerf {
			before()
			return
		}
		node := len(list)
		list = append(list, api.Node{Kind: api.Cut, Axis: axis, At: at, Kerf: kerf, Left: node + 1})
		before()
		list[node].Right = len(list)
		behind()
	}
	waste := func() { leaf(api.Waste, "") }
	var strip func(row []Place, top int)
	strip = func(row []Place, top int) {
		if len(row) == 0 {
			offcut()
			return
		}
		first := row[0]
		part := parts[first.Part]
		product := func() { leaf(api.Product, part.Name) }
		cut(api.AxisX, first.X+part.W, w, func() { cut(api.AxisY, first.Y+part.H, top, product, waste) }, func() { strip(row[1:], top) })
	}
	var shelves func(places []Place)
	shelves = func(places []Place) {
		if len(places) == 0 {
			offcut()
			return
		}
		row := firstRow(places)
		top := places[0].Y + parts[places[0].Part].H
		end := top
		if h-top <= kerf {
			end = h
		}
		cut(api.AxisY, top, h, func() { strip(row, end) }, func() { shelves(places[len(row):]) })
	}
	shelves(places)
	return list
}

// firstRow returns the places of the first shelf.
func firstRow(places []Place) []Place {
	for i, p := range places {
		if p.Shelf != places[0].Shelf {
			return places[:i]
		}
	}
	return places
}
