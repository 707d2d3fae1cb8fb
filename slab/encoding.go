package slab

import (
	"gangsaw/api"
	"gangsaw/box"
	"gangsaw/codec"
)

// The items of an encoding.
const (
	nameItem = iota
	blockItem
	numberItem
	boxItem
	colourItem
	frontItem
	backItem
	formItems
)

const boxNumbers = 6

// Encode returns the encoding of a slab.
func Encode(s api.Slab) (string, api.Errno) {
	if e := checkWhole(s); e != api.OK {
		return "", e
	}
	b := s.Box
	return codec.Encode(codec.Seq(
		codec.Str(s.Name), codec.Str(s.Block), codec.Num(int64(s.Number)),
		numbers([]int{b.Min.X, b.Min.Y, b.Min.Z, b.Max.X, b.Max.Y, b.Max.Z}),
		codec.Num(int64(s.Colour)), numbers(s.Front), numbers(s.Back)))
}

// Decode returns the slab of an encoding.
func Decode(s string) (api.Slab, api.Errno) {
	v, e := codec.Decode(s)
	if e != api.OK || v.Kind != codec.List || len(v.Items) != formItems {
		return api.Slab{}, api.ErrSyntax
	}
	var kinds [formItems]int
	var lists [formItems][]int
	for i, item := range v.Items {
		kinds[i] = item.Kind
		if item.Kind != codec.List {
			continue
		}
		for _, n := range item.Items {
			if n.Kind != codec.Number {
				return api.Slab{}, api.ErrSyntax
			}
			lists[i] = append(lists[i], int(n.N))
		}
	}
	if kinds != [formItems]int{codec.Text, codec.Text, codec.Number, codec.List, codec.Number, codec.List, codec.List} || len(lists[boxItem]) != boxNumbers {
		return api.Slab{}, api.ErrSyntax
	}
	at := lists[boxItem]
	slab := api.Slab{
		Name: v.Items[nameItem].S, Block: v.Items[blockItem].S, Number: int(v.Items[numberItem].N),
		Box:    api.Box{Min: api.Vec{X: at[0], Y: at[1], Z: at[2]}, Max: api.Vec{X: at[3], Y: at[4], Z: at[5]}},
		Colour: int(v.Items[colourItem].N), Front: lists[frontItem], Back: lists[backItem],
	}
	if checkWhole(slab) != api.OK {
		return api.Slab{}, api.ErrInvalid
	}
	return slab, api.OK
}

// checkWhole returns OK for a slab that is whole, or the first error.
func checkWhole(s api.Slab) api.Errno {
	if isMisnamed(s) {
		return api.ErrName
	}
	if e := box.Check(s.Box); e != api.OK {
		return e
	}
	switch {
	case s.Number < 1 || s.Number > MaxNumber:
		return api.ErrRange
	case len(s.Front) > MaxCode || len(s.Back) > MaxCode:
		return api.ErrTooMany
	}
	return api.OK
}

func numbers(list []int) codec.Value {
	var items []codec.Value
	for _, n := range list {
		items = append(items, codec.Num(int64(n)))
	}
	return codec.Seq(items...)
}
