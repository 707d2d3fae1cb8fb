package orient

import (
	"reflect"
	"testing"

	"gangsaw/api"
)

// P28.1: the array that is made at the start and the function have the same turns.
func TestArrayAgrees(t *testing.T) {
	for n := range Turns {
		if turns[n] != turnOf(n) {
			t.Errorf("the turn %d is %v in the array, and %v", n, turns[n], turnOf(n))
		}
	}
}

// answers returns what the functions return for every turn, every pair of turns and every bed.
func answers() []any {
	var list []any
	put := func(results ...any) { list = append(list, results...) }
	p, size := api.Vec{X: 1, Y: 2, Z: 3}, api.Vec{X: 2, Y: 3, Z: 5}
	for a := range Turns {
		pose := api.Pose{Turn: a, Shift: p}
		put(Apply(a, p))
		put(Invert(a))
		put(Point(pose, size))
		put(Box(pose, api.Box{Max: size}))
		put(Undo(pose))
		put(Size(a, size))
		put(Place(a, size, p))
		for direction := range 6 {
			put(Direction(a, direction))
		}
		for b := range Turns {
			put(Compose(a, b))
			put(Join(pose, api.Pose{Turn: b, Shift: size}))
		}
	}
	for bed := api.BedAny; bed <= api.BedEdge; bed++ {
		put(List(bed))
		put(Fits(bed, size, api.Vec{X: 3, Y: 2, Z: 5}))
		for a := range Turns {
			put(Allowed(bed, a))
		}
	}
	return list
}

// P28.1 to P28.4: results depend on the numbers of the turns alone, so that they stay the same with any array.
func TestNumberDecides(t *testing.T) {
	kept := turns
	defer func() { turns = kept }()
	want := answers()
	for shift := range Turns {
		for n := range Turns {
			turns[n] = kept[(n+shift)%Turns]
		}
		if !reflect.DeepEqual(answers(), want) {
			t.Errorf("the answers change with an array that begins at the turn %d", shift)
		}
	}
	turns = [Turns]turn{}
	if !reflect.DeepEqual(answers(), want) {
		t.Error("the answers change with an empty array")
	}
}
