package replace

import "slices"

// search returns the least repair of a stone, nil if there is none, and the stones that were reached by beginnings of repairs.
func search(p Plan, stone int) ([]Change, []int) {
	// from has, for each piece that was seen, the stone that would get it. Pieces are tried in order, so that the first way to a piece is the least one.
	from := map[int]int{}
	repair := func(piece int) []Change {
		var list []Change
		for {
			i := from[piece]
			list = append(list, Change{Stone: i, From: p.Uses[i], To: piece})
			if i == stone {
				slices.Reverse(list)
				return list
			}
			piece = p.Uses[i]
		}
	}
	reached := []int{stone}
	for queue := []int{stone}; len(queue) > 0; queue = queue[1:] {
		i := queue[0]
		for _, piece := range p.Fits[i] {
			if _, isSeen := from[piece]; isSeen {
				continue
			}
			from[piece] = i
			user := slices.Index(p.Uses, piece)
			if user == none {
				return repair(piece), nil
			}
			if !p.Fixed[user] {
				queue = append(queue, user)
				reached = append(reached, user)
			}
		}
	}
	return nil, reached
}

// far stands for a stone or piece that is not reached.
const far = MaxSide * MaxSide

// cheapest returns which stones use which pieces if as many as possible use one, with as few changes as possible. The number of the stones grows along the cheapest alternating paths, which keeps the changes the fewest for it.
func cheapest(p Plan) []int {
	uses := slices.Clone(p.Uses)
	cost := func(stone, piece int) int {
		if p.Uses[stone] == piece {
			return 0
		}
		return 1
	}
	for {
		costs, from := paths(p, uses, cost)
		best := none
		for piece, c := range costs {
			if !slices.Contains(uses, piece) && c < far && (best == none || c < costs[best]) {
				best = piece
			}
		}
		if best == none {
			return uses
		}
		for best != none {
			stone := from[best]
			best, uses[stone] = uses[stone], best
		}
	}
}

// paths returns, for each piece, the cost of the cheapest alternating path to it from a stone that uses none, and the stone before it on this path. A change that is taken back makes a path cheaper.
func paths(p Plan, uses []int, cost func(stone, piece int) int) (costs, from []int) {
	costs, from = make([]int, p.Pieces), make([]int, p.Pieces)
	for piece := range costs {
		costs[piece], from[piece] = far, none
	}
	reach := func(stone int) int {
		if uses[stone] == none {
			return 0
		}
		if c := costs[uses[stone]]; c < far {
			return c - cost(stone, uses[stone])
		}
		return far
	}
	for isChanged := true; isChanged; {
		isChanged = false
		for stone, fits := range p.Fits {
			begin := reach(stone)
			if begin == far || p.Fixed[stone] {
				continue
			}
			for _, piece := range fits {
				if c := begin + cost(stone, piece); piece != uses[stone] && c < costs[piece] {
					costs[piece], from[piece], isChanged = c, stone, true
				}
			}
		}
	}
	return costs, from
}
