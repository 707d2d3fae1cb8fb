package certificate

import (
	"slices"

	"gangsaw/api"
	"gangsaw/assign"
)

func graphOf(c Claim) assign.Graph { return assign.Graph{Left: c.Left, Right: c.Right, Edges: c.Edges} }

func checkGraph(c Claim) api.Errno { return assign.Check(graphOf(c)) }

func makeMore(c Claim) ([]string, []int64) {
	left, right, _ := assign.Cover(graphOf(c))
	return nil, slices.Concat([]int64{int64(len(left))}, numbersOf(left), numbersOf(right))
}

// provesMore reports whether nodes are a cover, and few enough.
func provesMore(c Claim, names []string, numbers []int64) bool {
	if len(names) > 0 || len(numbers) == 0 || numbers[0] < 0 || numbers[0] > int64(len(numbers)-1) {
		return false
	}
	nodes := make([]int, len(numbers)-1)
	for i, n := range numbers[1:] {
		nodes[i] = int(n)
	}
	left, right := nodes[:numbers[0]], nodes[numbers[0]:]
	_, e := assign.CheckCover(graphOf(c), left, right)
	return e == api.OK && int64(len(nodes)) <= c.Value
}

// provesCheaper reports whether prices hold, with a bound that is great enough.
func provesCheaper(c Claim, names []string, numbers []int64) bool {
	if len(names) > 0 || len(numbers) != c.Left+c.Right {
		return false
	}
	bound, _, e := assign.CheckPrices(graphOf(c), numbers[:c.Left], numbers[c.Left:])
	return e == api.OK && bound >= c.Value
}

// makeCheaper returns the prices with the greatest bound. If some left nodes have too few neighbours, these nodes and their neighbours get prices that are as great as possible, so that each node that cannot be matched adds its price to the bound.
func makeCheaper(c Claim) ([]string, []int64) {
	g := graphOf(c)
	few, _ := assign.Hall(g) // none, if all left nodes can be matched
	isFew := make([]bool, g.Left)
	for _, l := range few {
		isFew[l] = true
	}
	isNear := make([]bool, g.Right)
	for _, e := range g.Edges {
		isNear[e.Right] = isNear[e.Right] || isFew[e.Left]
	}
	left, right := make([]int64, g.Left), make([]int64, g.Right)
	priceRest(g, isFew, isNear, left, right)
	priceFew(g, isFew, isNear, left, right)
	return nil, slices.Concat(left, right)
}

// priceRest sets the prices of the left nodes that can all be matched with right nodes that are not near the others.
func priceRest(g assign.Graph, isFew, isNear []bool, left, right []int64) {
	lefts, rights := number(isFew, false), number(isNear, false)
	part := assign.Graph{Left: count(isFew, false), Right: count(isNear, false)}
	for _, e := range g.Edges {
		if !isFew[e.Left] && !isNear[e.Right] {
			part.Edges = append(part.Edges, api.Edge{Left: lefts[e.Left], Right: rights[e.Right], Cost: e.Cost})
		}
	}
	l, r, _ := assign.Prices(part)
	spread(l, isFew, lefts, false, func(i int, p int64) { left[i] = p })
	spread(r, isNear, rights, false, func(i int, p int64) { right[i] = p })
}

// priceFew sets the prices of the left nodes with too few neighbours, and of these neighbours, which can all be matched: both sides change places.
func priceFew(g assign.Graph, isFew, isNear []bool, left, right []int64) {
	lefts, rights := number(isFew, true), number(isNear, true)
	part := assign.Graph{Left: count(isNear, true), Right: count(isFew, true)}
	for r := range isNear {
		for _, e := range g.Edges {
			if e.Right == r && isFew[e.Left] {
				part.Edges = append(part.Edges, api.Edge{Left: rights[r], Right: lefts[e.Left], Cost: e.Cost})
			}
		}
	}
	r, l, _ := assign.Prices(part)
	spread(l, isFew, lefts, true, func(i int, p int64) { left[i] = assign.MaxPrice - p })
	spread(r, isNear, rights, true, func(i int, p int64) { right[i] = assign.MaxPrice - p })
}

// number numbers the nodes for which a list has a value.
func number(list []bool, value bool) []int {
	numbers := make([]int, len(list))
	n := 0
	for i, v := range list {
		numbers[i] = n
		if v == value {
			n++
		}
	}
	return numbers
}

func count(list []bool, value bool) int {
	n := 0
	for _, v := range list {
		if v == value {
			n++
		}
	}
	return n
}

// spread sets the prices of the nodes for which a list has a value.
func spread(prices []int64, list []bool, numbers []int, value bool, set func(i int, price int64)) {
	for i, v := range list {
		if v == value && numbers[i] < len(prices) {
			set(i, prices[numbers[i]])
		}
	}
}
