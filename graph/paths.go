package graph

import (
	"slices"

	"sleuth/api"
)

// Reach returns the nodes that at least one of some nodes reaches.
func Reach(g Graph, from []int) ([]int, api.Errno) {
	g = valid(g)
	if !hasAll(g, from) {
		return nil, api.ErrNotFound
	}
	return reached(distances(g, from)), api.OK
}

// Distances returns for each node the least number of edges of a path to it.
func Distances(g Graph, from int) ([]int, api.Errno) {
	g = valid(g)
	if !isNode(g.Count, from) {
		return nil, api.ErrNotFound
	}
	return distances(g, []int{from}), api.OK
}

// Path returns the least of the shortest paths between two nodes.
func Path(g Graph, from, to int) ([]int, api.Errno) {
	g = valid(g)
	if !hasAll(g, []int{from, to}) {
		return nil, api.ErrNotFound
	}
	left := distances(Reverse(g), []int{to})
	if left[from] == none {
		return nil, api.ErrUnreachable
	}
	return walk(successors(g), left, from), api.OK
}

// hasAll reports whether a graph has some nodes.
func hasAll(g Graph, l []int) bool {
	return !slices.ContainsFunc(l, func(n int) bool { return !isNode(g.Count, n) })
}

// distances returns for each node the least number of edges of a path to it from one of some nodes.
func distances(g Graph, from []int) []int {
	next := successors(g)
	edges := slices.Repeat([]int{none}, g.Count)
	isVisited := make([]bool, g.Count)
	var visited []int
	visit := func(n, distance int) {
		if !isVisited[n] {
			isVisited[n], edges[n] = true, distance
			visited = append(visited, n)
		}
	}
	for _, n := range from {
		visit(n, 0)
	}
	for k := 0; k < len(visited); k++ {
		for _, n := range next[visited[k]] {
			visit(n, edges[visited[k]]+1)
		}
	}
	return edges
}

// reached returns the nodes to which there is a path.
func reached(distances []int) []int {
	var l []int
	for n, distance := range distances {
		if distance != none {
			l = append(l, n)
		}
	}
	return l
}

// walk returns the least path from a node along which the number of edges that are left decreases to 0.
func walk(next [][]int, left []int, from int) []int {
	path := []int{from}
	for n := from; left[n] > 0; {
		isNearer := func(m int) bool { return left[m] == left[n]-1 }
		n = next[n][slices.IndexFunc(next[n], isNearer)]
		path = append(path, n)
	}
	return path
}

// Cycle returns the least of the shortest cycles that begin with the least node on a cycle.
func Cycle(g Graph) ([]int, bool) {
	g = valid(g)
	next, reversed := successors(g), Reverse(g)
	for n := range g.Count {
		left := distances(reversed, []int{n})
		if second, isFound := nearest(next[n], left); isFound {
			path := walk(next, left, second)
			return append([]int{n}, path[:len(path)-1]...), true
		}
	}
	return nil, false
}

// nearest returns the first of the nodes from which the fewest edges are left, unless there is no path from any of them.
func nearest(l, left []int) (nearest int, isFound bool) {
	for _, n := range l {
		if left[n] != none && (!isFound || left[n] < left[nearest]) {
			nearest, isFound = n, true
		}
	}
	return nearest, isFound
}
