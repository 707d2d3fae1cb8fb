package orient

import "gangsaw/api"

// turn is a turn: which coordinate of a point becomes which one of its image, and its sign.
type turn struct {
	axes  [3]int
	signs [3]int
}

// turns has the turns by their numbers. It is made at the start, and stays beside turnOf, which decides what the turns are.
var turns [Turns]turn

func init() {
	number := 0
	add := func(axes [3]int, signs [4][3]int) {
		for _, s := range signs {
			turns[number] = turn{axes, s}
			number++
		}
	}
	// The product of the signs is that of the permutation, so that right-handedness is preserved.
	even := [4][3]int{{1, 1, 1}, {1, -1, -1}, {-1, 1, -1}, {-1, -1, 1}}
	odd := [4][3]int{{1, 1, -1}, {1, -1, 1}, {-1, 1, 1}, {-1, -1, -1}}
	add([3]int{0, 1, 2}, even)
	add([3]int{0, 2, 1}, odd)
	add([3]int{1, 0, 2}, odd)
	add([3]int{1, 2, 0}, even)
	add([3]int{2, 0, 1}, even)
	add([3]int{2, 1, 0}, odd)
}

// turnOf returns the turn with a number.
func turnOf(n int) turn {
	axes := [6][3]int{{0, 1, 2}, {0, 2, 1}, {1, 0, 2}, {1, 2, 0}, {2, 0, 1}, {2, 1, 0}}
	parities := [6]int{1, -1, -1, 1, 1, -1}
	firstSigns := [4][2]int{{1, 1}, {1, -1}, {-1, 1}, {-1, -1}}
	r, s := firstSigns[n%4][0], firstSigns[n%4][1]
	// The last sign follows from the others, since right-handedness is preserved.
	return turn{axes[n/4], [3]int{r, s, parities[n/4] * r * s}}
}

func (t turn) image(p api.Vec) api.Vec {
	from := [3]int{p.X, p.Y, p.Z}
	return api.Vec{X: t.signs[0] * from[t.axes[0]], Y: t.signs[1] * from[t.axes[1]], Z: t.signs[2] * from[t.axes[2]]}
}

func (t turn) size(s api.Vec) api.Vec {
	sides := [3]int{s.X, s.Y, s.Z}
	return api.Vec{X: sides[t.axes[0]], Y: sides[t.axes[1]], Z: sides[t.axes[2]]}
}

// boxImage returns the image of a box under a pose, whatever its coordinates are.
func boxImage(p api.Pose, b api.Box) api.Box {
	t := turnOf(p.Turn)
	from, to := add(t.image(b.Min), p.Shift), add(t.image(b.Max), p.Shift)
	return api.Box{
		Min: api.Vec{X: min(from.X, to.X), Y: min(from.Y, to.Y), Z: min(from.Z, to.Z)},
		Max: api.Vec{X: max(from.X, to.X), Y: max(from.Y, to.Y), Z: max(from.Z, to.Z)},
	}
}

// compose returns the number of the turn that is b, and then a.
func compose(a, b int) int {
	first, then := turnOf(b), turnOf(a)
	var t turn
	for i, axis := range then.axes {
		t.axes[i] = first.axes[axis]
		t.signs[i] = then.signs[i] * first.signs[axis]
	}
	return numberOf(t)
}

func invert(n int) int {
	var t turn
	there := turnOf(n)
	for i, axis := range there.axes {
		t.axes[axis] = i
		t.signs[axis] = there.signs[i]
	}
	return numberOf(t)
}

func numberOf(t turn) int {
	for i := range Turns {
		if t == turnOf(i) {
			return i
		}
	}
	return 0
}
