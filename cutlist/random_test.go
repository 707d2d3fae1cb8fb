package cutlist_test

import (
	"math/rand"
	"strconv"
	"testing"

	"gangsaw/api"
	"gangsaw/cutlist"
)

// random is a valid building with a few profiles and walls.
func random(r *rand.Rand) api.Building {
	b := api.Building{Name: "b" + strconv.Itoa(r.Intn(9))}
	profiles := []string{""}
	for i := range r.Intn(4) {
		name := "p" + strconv.Itoa(i)
		profiles = append(profiles, name)
		x, y := r.Intn(9)-4, r.Intn(9)-4
		b.Profiles = append(b.Profiles, api.Profile{Name: name, Outline: api.Polygon{{X: x, Y: y}, {X: x + 1 + r.Intn(5), Y: y}, {X: x + r.Intn(5), Y: y + 1 + r.Intn(5)}}})
	}
	for i := range r.Intn(4) {
		w := api.Wall{Name: "w" + strconv.Itoa(i), Length: 1 + r.Intn(60), Lap: r.Intn(9), Joint: api.Interval{Lo: r.Intn(3), Hi: 2 + r.Intn(5)}}
		height := 1 + r.Intn(9)
		z := 0
		for course := range r.Intn(4) {
			for at := 0; at < w.Length; {
				length := min(1+r.Intn(30), w.Length-at)
				if w.Length-at-length <= 8 {
					length = w.Length - at
				}
				w.Stones = append(w.Stones, stone(r, profiles, "s"+strconv.Itoa(1000+len(w.Stones)), course, at, z, length, height))
				at += length
				if at < w.Length {
					at += w.Joint.Lo
				}
			}
			z += height + w.Joint.Hi
		}
		b.Walls = append(b.Walls, w)
	}
	return b
}

func stone(r *rand.Rand, profiles []string, name string, course, x, z, length, height int) api.Stone {
	s := api.Stone{Name: name, Course: course, At: api.Vec{X: x, Z: z}, Size: api.Vec{X: length, Y: 1 + r.Intn(3), Z: height}}
	if r.Intn(2) == 0 {
		s.Bed, s.Tol, s.Colour = r.Intn(4), r.Intn(3), r.Intn(3)
		s.Grade, s.Profile = []string{"", "fine"}[r.Intn(2)], profiles[r.Intn(len(profiles))]
	}
	for range r.Intn(3) {
		s.Anchors = append(s.Anchors, api.Anchor{Face: r.Intn(6), At: api.Point{X: r.Intn(9), Y: r.Intn(9)}, Edge: r.Intn(9)})
	}
	return s
}

// P45.2 to P45.5
func TestRandomBuildings(t *testing.T) {
	r := rand.New(rand.NewSource(1))
	stones := 0
	for range 500 {
		b := random(r)
		lines, e := cutlist.Lines(b)
		built, f := cutlist.Build(lines)
		if e != api.OK || f != (api.Fault{}) || !cutlist.Equal(built, b) {
			t.Fatalf("Build of the lines of %v = %v, %v, %d", b, built, f, e)
		}
		source, e := cutlist.Source(b)
		loaded, f := cutlist.Load(source)
		if e != api.OK || f != (api.Fault{}) || !cutlist.Equal(loaded, b) {
			t.Fatalf("Load(%q) = %v, %v, %d", source, loaded, f, e)
		}
		count, sum := 0, int64(0)
		totals, _ := cutlist.Totals(b)
		for _, x := range totals {
			count += x.Count
			sum += int64(x.Count * x.Size.X * x.Size.Y * x.Size.Z)
		}
		all := 0
		for _, w := range b.Walls {
			all += len(w.Stones)
		}
		if volume, e := cutlist.Volume(b); count != all || sum != volume || e != api.OK {
			t.Fatalf("Totals(%v) = %v; Volume = %d, %d", b, totals, volume, e)
		}
		stones += all
	}
	if stones < 1000 {
		t.Errorf("only %d stones", stones)
	}
}
