package graph

import (
	"cmp"
	"slices"
)

// Components returns the strongly connected components.
func Components(g Graph) [][]int {
	g = valid(g)
	next, previous := successors(g), successors(Reverse(g))
	isVisited := make([]bool, g.Count)
	var left []int
	for n := range g.Count {
		left = append(left, leave(next, n, isVisited)...)
	}
	// The last node that was left reaches what no component before it has taken (Kosaraju), so that what reaches it is its component.
	clear(isVisited)
	var components [][]int
	for _, n := range slices.Backward(left) {
		if component := leave(previous, n, isVisited); len(component) > 0 {
			slices.Sort(component)
			components = append(components, component)
		}
	}
	slices.SortFunc(components, func(a, b []int) int { return cmp.Compare(a[0], b[0]) })
	return components
}

// leave visits what a node reaches and was not visited before, depth first, and returns these nodes in the order in which they are left.
func leave(next [][]int, from int, isVisited []bool) []int {
	var left []int
	var visit func(n int)
	visit = func(n int) {
		if isVisited[n] {
			return
		}
		isVisited[n] = true
		for _, m := range next[n] {
			visit(m)
		}
		left = append(left, n)
	}
	visit(from)
	return left
}

// Condense returns the graph of the components, and for each node the index of its component.
func Condense(g Graph) (c Graph, of []int) {
	g = valid(g)
	components := Components(g)
	of = make([]int, g.Count)
	for k, component := range components {
		for _, n := range component {
			of[n] = k
		}
	}
	var edges []Edge
	for _, edge := range g.Edges {
		if of[edge.From] != of[edge.To] {
			edges = append(edges, Edge{of[edge.From], of[edge.To]})
		}
	}
	return Graph{len(components), ordered(edges)}, of
}
