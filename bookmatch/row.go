package bookmatch

import "gangsaw/api"

// ways is the number of the ways to lay a slab: as it is, and turned over.
const ways = 2

// joint has the mismatches of a slab and the next one, by the ways to lay both.
type joint [ways][ways]int64

// joints returns the joints of all neighbours.
func joints(slabs []api.Slab) [MaxRow]joint {
	var table [MaxRow]joint
	for i := range len(slabs) - 1 {
		for t := range ways {
			for u := range ways {
				table[i][t][u] = cost(slabs, []Set{{i, t == 1}, {i + 1, u == 1}})
			}
		}
	}
	return table
}

// potentials returns, for n slabs from the first one on, the least mismatches of the rows from each of them to the last one.
func potentials(table [MaxRow]joint, first, n int) [MaxRow][ways]int64 {
	var least [MaxRow][ways]int64
	for i := first + n - 2; i >= first; i-- {
		for t := range ways {
			by := func(u int) int64 { return table[i][t][u] + least[i+1][u] }
			least[i][t] = min(by(0), by(1))
		}
	}
	return least
}

// firstBest returns the first row with the least mismatch of n slabs in order, and this mismatch.
func firstBest(table [MaxRow]joint, first, n int) ([]Set, int64) {
	least := potentials(table, first, n)
	var row []Set
	for i := first; i < first+n; i++ {
		by := func(t int) int64 {
			if i == first {
				return least[i][t]
			}
			return table[i-1][way(row[len(row)-1])][t] + least[i][t]
		}
		row = append(row, Set{Slab: i, Turned: by(1) < by(0)})
	}
	return row, min(least[first][0], least[first][1])
}

func way(s Set) int {
	if s.Turned {
		return 1
	}
	return 0
}

// longest returns the first one of the longest rows from a slab on in which no mismatch of neighbours is greater than a limit.
func longest(table [MaxRow]joint, first, count int, limit int64) []Set {
	reached := [][ways]bool{{true, true}}
	for i := first; i+1 < count; i++ {
		var next [ways]bool
		for t, isReached := range reached[len(reached)-1] {
			for u := range next {
				next[u] = next[u] || isReached && table[i][t][u] <= limit
			}
		}
		if next == [ways]bool{} {
			break
		}
		reached = append(reached, next)
	}
	// From the end on, only those ways stay from which the last slab is reached.
	for k := len(reached) - 2; k >= 0; k-- {
		for t := range ways {
			leads := func(u int) bool { return reached[k+1][u] && table[first+k][t][u] <= limit }
			reached[k][t] = reached[k][t] && (leads(0) || leads(1))
		}
	}
	var row []Set
	for k, possible := range reached {
		isNext := func(t int) bool {
			return possible[t] && (k == 0 || table[first+k-1][way(row[k-1])][t] <= limit)
		}
		row = append(row, Set{Slab: first + k, Turned: !isNext(0)})
	}
	return row
}
