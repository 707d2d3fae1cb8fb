package trace

import (
	"strconv"
	"strings"

	"gangsaw/api"
	"gangsaw/bench"
	"gangsaw/lineage"
)

// Report returns the report about a piece.
func Report(s api.Site, list []api.Piece, id string) (string, api.Errno) {
	if e := bench.Check(s); e != api.OK {
		return "", e
	}
	way, e := lineage.Way(list, id)
	if e != api.OK {
		return "", e
	}
	place, e := lineage.Place(list, id)
	if e != api.OK {
		return "", e
	}
	pose, e := lineage.Pose(list, id)
	if e != api.OK {
		return "", e
	}
	block := way[len(way)-1]
	origin := line("block", block, "unknown")
	if name, e := Bench(s, list, id); e == api.OK {
		origin = line("block", block, "bench", name)
	}
	lines := []string{
		line("piece", id),
		origin,
		line("place", point(place.Min), "to", point(place.Max)),
		line("turn", strconv.Itoa(pose.Turn)),
	}
	for _, from := range way[1:] {
		lines = append(lines, line("from", from))
	}
	return strings.Join(lines, "\n"), api.OK
}

// line returns a line of words and numbers.
func line(parts ...string) string { return strings.Join(parts, " ") }

func point(v api.Vec) string {
	return line(strconv.Itoa(v.X), strconv.Itoa(v.Y), strconv.Itoa(v.Z))
}
