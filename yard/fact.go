package yard

import (
	"slices"

	"gangsaw/api"
	"gangsaw/box"
	"gangsaw/kerf"
	"gangsaw/lexer"
)

// The kinds of facts.
const (
	freeKind    = "free"
	cutKind     = "cut"
	assignKind  = "assign"
	releaseKind = "release"
	setKind     = "set"
	breakKind   = "break"
)

// kind is a kind of facts: how many names and values it has, in which states its item may be, what else it needs, and what it does.
type kind struct {
	names, values int
	states        []int // none for free, which needs no item
	check         func(y *Yard, f api.Fact) api.Errno
	do            func(y *Yard, f api.Fact)
}

func kinds() map[string]kind {
	none := func(*Yard, api.Fact) api.Errno { return api.OK }
	become := func(state int) func(y *Yard, f api.Fact) {
		return func(y *Yard, f api.Fact) {
			item := y.items[f.Names[0]]
			item.State = state
			if state != Set {
				item.Stone = ""
			}
			y.items[item.Id] = item
		}
	}
	return map[string]kind{
		freeKind:    {1, 6, nil, checkFree, doFree},
		cutKind:     {3, 3, []int{Whole}, checkCut, doCut},
		assignKind:  {2, 0, []int{Whole}, checkAssign, doAssign},
		releaseKind: {1, 0, []int{Assigned}, none, become(Whole)},
		setKind:     {1, 0, []int{Assigned}, none, become(Set)},
		breakKind:   {1, 0, []int{Whole, Assigned}, none, become(Broken)},
	}
}

// checkForm checks the numbers of names and values, and the names.
func (k kind) checkForm(f api.Fact) api.Errno {
	switch {
	case len(f.Names) != k.names || len(f.Values) != k.values:
		return api.ErrInvalid
	case slices.ContainsFunc(f.Names, isMisnamed):
		return api.ErrName
	}
	return api.OK
}

func isMisnamed(s string) bool { return !lexer.Name(s) }

// checkItem checks the item of a fact, whose form is right.
func (y *Yard) checkItem(k kind, f api.Fact) api.Errno {
	if len(k.states) == 0 {
		return api.OK
	}
	item, e := y.Find(f.Names[0])
	switch {
	case e != api.OK:
		return e
	case !slices.Contains(k.states, item.State):
		return api.ErrState
	}
	return api.OK
}

// boxOf returns the box of a fact free.
func boxOf(f api.Fact) api.Box {
	n := func(i int) int { return int(f.Values[i]) }
	return api.Box{Min: api.Vec{X: n(0), Y: n(1), Z: n(2)}, Max: api.Vec{X: n(3), Y: n(4), Z: n(5)}}
}

func cutOf(f api.Fact) kerf.Cut {
	return kerf.Cut{Axis: int(f.Values[0]), At: int(f.Values[1]), Kerf: int(f.Values[2])}
}

func (y *Yard) has(id string) bool {
	_, e := y.Find(id)
	return e == api.OK
}

func checkFree(y *Yard, f api.Fact) api.Errno {
	switch {
	case y.has(f.Names[0]):
		return api.ErrDuplicate
	case len(y.items)+1 > api.MaxPieces:
		return api.ErrTooMany
	}
	b := boxOf(f)
	if e := box.Check(b); e != api.OK {
		return e
	}
	if _, isThere := y.any(func(item Item) bool { return item.Parent == "" && box.Overlap(item.Box, b) }); isThere {
		return api.ErrOverlap
	}
	return api.OK
}

func doFree(y *Yard, f api.Fact) {
	y.items[f.Names[0]] = Item{Id: f.Names[0], Box: boxOf(f), State: Whole}
}

func checkCut(y *Yard, f api.Fact) api.Errno {
	switch {
	case y.has(f.Names[1]) || y.has(f.Names[2]) || f.Names[1] == f.Names[2]:
		return api.ErrDuplicate
	case len(y.items)+2 > api.MaxPieces:
		return api.ErrTooMany
	}
	return kerf.Check(y.items[f.Names[0]].Box, cutOf(f))
}

func doCut(y *Yard, f api.Fact) {
	item := y.items[f.Names[0]]
	first, _, second, _ := kerf.Split(item.Box, cutOf(f))
	item.State = Divided
	y.items[item.Id] = item
	y.items[f.Names[1]] = Item{Id: f.Names[1], Parent: item.Id, Box: first, State: Whole}
	y.items[f.Names[2]] = Item{Id: f.Names[2], Parent: item.Id, Box: second, State: Whole}
}

func checkAssign(y *Yard, f api.Fact) api.Errno {
	if _, e := y.Stone(f.Names[1]); e == api.OK {
		return api.ErrDuplicate
	}
	return api.OK
}

func doAssign(y *Yard, f api.Fact) {
	item := y.items[f.Names[0]]
	item.State, item.Stone = Assigned, f.Names[1]
	y.items[item.Id] = item
}
