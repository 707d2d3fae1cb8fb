package profile

import (
	"gangsaw/api"
	"gangsaw/vector"
)

// next returns the corner behind a corner of an outline.
func next(o api.Polygon, i int) api.Point { return o[(i+1)%len(o)] }

// hasTwins reports whether a corner equals the next one.
func hasTwins(o api.Polygon) bool {
	for i, c := range o {
		if c == next(o, i) {
			return true
		}
	}
	return false
}

// isSimple reports whether no edges of an outline have more in common than they must.
func isSimple(o api.Polygon) bool {
	for i := range o {
		for k := range i {
			allowed := 0
			if k == i-1 || k == (i+1)%len(o) {
				allowed = 1
			}
			if common, _ := vector.Meet(o[i], next(o, i), o[k], next(o, k)); common > allowed {
				return false
			}
		}
	}
	return true
}

func doubledArea(o api.Polygon) int64 {
	var sum int64
	for i, p := range o {
		q := next(o, i)
		sum += int64(p.X)*int64(q.Y) - int64(q.X)*int64(p.Y)
	}
	return sum
}

// bounds returns the least coordinates and the size of an outline.
func bounds(o api.Polygon) (api.Point, api.Point) {
	least, most := o[0], o[0]
	for _, c := range o {
		least.X, least.Y = min(least.X, c.X), min(least.Y, c.Y)
		most.X, most.Y = max(most.X, c.X), max(most.Y, c.Y)
	}
	return least, api.Point{X: most.X - least.X, Y: most.Y - least.Y}
}

// canonical returns the outline of the canonical profile.
func canonical(o api.Polygon) api.Polygon {
	least, _ := bounds(o)
	first := greatest(o, func(c api.Point) [2]int { return [2]int{-c.Y, -c.X} })
	var moved api.Polygon
	for i := range o {
		c := o[(first+i)%len(o)]
		moved = append(moved, api.Point{X: c.X - least.X, Y: c.Y - least.Y})
	}
	return moved
}

// greatest returns the index of the corner with the greatest key.
func greatest(o api.Polygon, key func(api.Point) [2]int) int {
	best := 0
	for i, c := range o {
		a, b := key(c), key(o[best])
		if a[0] > b[0] || a[0] == b[0] && a[1] > b[1] {
			best = i
		}
	}
	return best
}

// undercut returns the index of the first edge of the side towards a direction that prevents that a template is drawn off, -1 if there is none.
func undercut(o api.Polygon, direction int) int {
	// Seen in the direction, the side leads from the lesser numbers along it to the greater ones.
	along := func(c api.Point) int { return [4]int{c.Y, -c.Y, -c.X, c.X}[direction] }
	out := func(c api.Point) int { return [4]int{c.X, -c.X, c.Y, -c.Y}[direction] }
	from := greatest(o, func(c api.Point) [2]int { return [2]int{-along(c), out(c)} })
	to := greatest(o, func(c api.Point) [2]int { return [2]int{along(c), out(c)} })
	for i := from; i != to; i = (i + 1) % len(o) {
		if along(next(o, i)) < along(o[i]) {
			return i
		}
	}
	return -1
}
