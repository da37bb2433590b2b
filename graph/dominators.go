package graph

import (
	"slices"

	"sleuth/api"
)

// Dominators returns the immediate dominator of each node.
func Dominators(g Graph, root int) ([]int, api.Errno) {
	g = valid(g)
	if !isNode(g.Count, root) {
		return nil, api.ErrNotFound
	}
	left := leave(successors(g), root, make([]bool, g.Count))
	slices.Reverse(left)
	above := settle(left, successors(Reverse(g)))
	above[root] = none
	return above, api.OK
}

// settle returns the immediate dominators of nodes that are listed as a walk reaches them (the last one that is left first), where the root is its own one.
func settle(nodes []int, previous [][]int) []int {
	above := slices.Repeat([]int{none}, len(previous))
	place := make([]int, len(previous))
	for k, n := range nodes {
		place[n] = k
	}
	root := nodes[0]
	above[root] = root
	for hasChanged := true; hasChanged; {
		hasChanged = false
		for _, n := range nodes[1:] {
			if d := common(previous[n], above, place); d != above[n] {
				above[n], hasChanged = d, true
			}
		}
	}
	return above
}

// common returns the last node that dominates all of some nodes, as far as their dominators are known.
func common(l, above, place []int) int {
	last := none
	for _, n := range l {
		switch {
		case above[n] == none:
		case last == none:
			last = n
		default:
			last = meet(last, n, above, place)
		}
	}
	return last
}

// meet returns the last node that dominates two nodes. A dominator has an earlier place than what it dominates.
func meet(a, b int, above, place []int) int {
	for a != b {
		if place[a] > place[b] {
			a = above[a]
		} else {
			b = above[b]
		}
	}
	return a
}
