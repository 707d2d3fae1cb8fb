package printer

import (
	"slices"

	"gangsaw/api"
)

// The kinds of edits.
const (
	Keep   = 0
	Delete = 1
	Insert = 2
)

const maxRows = 500

// Edit keeps or deletes a line of the old source, or inserts one of the new source.
type Edit struct {
	Kind int
	Text string
}

// Diff returns the shortest edits that lead from rows to other rows.
func Diff(old, now []string) ([]Edit, api.Errno) {
	if len(old) > maxRows || len(now) > maxRows {
		return nil, api.ErrTooMany
	}
	fewest := distances(old, now)
	var edits []Edit
	i, k := 0, 0
	for i < len(old) || k < len(now) {
		switch {
		case i < len(old) && k < len(now) && old[i] == now[k]:
			edits = append(edits, Edit{Keep, old[i]})
			i++
			k++
		case i < len(old) && fewest[i+1][k] < fewest[i][k]:
			edits = append(edits, Edit{Delete, old[i]})
			i++
		default:
			edits = append(edits, Edit{Insert, now[k]})
			k++
		}
	}
	return edits, api.OK
}

// Apply returns the rows that edits make of rows.
func Apply(old []string, edits []Edit) ([]string, api.Errno) {
	unknown := func(x Edit) bool { return x.Kind != Keep && x.Kind != Delete && x.Kind != Insert }
	if slices.ContainsFunc(edits, unknown) {
		return nil, api.ErrInvalid
	}
	var rows []string
	for _, x := range edits {
		if x.Kind != Insert {
			if len(old) == 0 || old[0] != x.Text {
				return nil, api.ErrConflict
			}
			old = old[1:]
		}
		if x.Kind != Delete {
			rows = append(rows, x.Text)
		}
	}
	if len(old) > 0 {
		return nil, api.ErrConflict
	}
	return rows, api.OK
}

// Invert returns the edits that lead back.
func Invert(edits []Edit) []Edit {
	inverted := slices.Clone(edits)
	for i, x := range edits {
		switch x.Kind {
		case Delete:
			inverted[i].Kind = Insert
		case Insert:
			inverted[i].Kind = Delete
		}
	}
	return inverted
}

// distances returns how many rows must at least be deleted and inserted, when i old rows and k new ones are done with.
func distances(old, now []string) [][]int {
	fewest := make([][]int, len(old)+1)
	for i := len(old); i >= 0; i-- {
		fewest[i] = make([]int, len(now)+1)
		for k := len(now); k >= 0; k-- {
			switch {
			case i == len(old):
				fewest[i][k] = len(now) - k
			case k == len(now):
				fewest[i][k] = len(old) - i
			case old[i] == now[k]:
				fewest[i][k] = fewest[i+1][k+1]
			default:
				fewest[i][k] = 1 + min(fewest[i+1][k], fewest[i][k+1])
			}
		}
	}
	return fewest
}
