package graph

import (
	"slices"

	"sleuth/api"
)

// Order returns the least topological order.
func Order(g Graph) ([]int, api.Errno) {
	g = valid(g)
	next := successors(g)
	awaited := make([]int, g.Count) // how many nodes with an edge to a node are not in the order yet, or none if it is in it itself
	for _, edge := range g.Edges {
		awaited[edge.To]++
	}
	var order []int
	for range g.Count {
		n := slices.Index(awaited, 0)
		if n < 0 {
			return nil, api.ErrCycle
		}
		order = append(order, n)
		awaited[n] = none
		for _, m := range next[n] {
			awaited[m]--
		}
	}
	return order, api.OK
}

// Close returns the transitive closure.
func Close(g Graph) Graph {
	g = valid(g)
	var edges []Edge
	for from, row := range closure(g) {
		for to, hasPath := range row {
			if hasPath {
				edges = append(edges, Edge{from, to})
			}
		}
	}
	return Graph{g.Count, edges}
}

// Reduce returns the transitive reduction.
func Reduce(g Graph) (Graph, api.Errno) {
	g = valid(g)
	if _, e := Order(g); e != api.OK {
		return Graph{}, e
	}
	next, hasPath := successors(g), closure(g)
	var edges []Edge
	for _, edge := range g.Edges {
		leads := func(n int) bool { return hasPath[n][edge.To] }
		if !slices.ContainsFunc(next[edge.From], leads) {
			edges = append(edges, edge)
		}
	}
	return Graph{g.Count, edges}, api.OK
}

// closure returns for each pair of nodes whether there is a path with at least one edge from the one to the other.
func closure(g Graph) [][]bool {
	hasPath := make([][]bool, g.Count)
	for n := range hasPath {
		hasPath[n] = make([]bool, g.Count)
	}
	for _, edge := range g.Edges {
		hasPath[edge.From][edge.To] = true
	}
	for middle := range g.Count {
		for from := range g.Count {
			if hasPath[from][middle] {
				join(hasPath[from], hasPath[middle])
			}
		}
	}
	return hasPath
}

// join sets in a row what is set in another one.
func join(row, other []bool) {
	for k, isSet := range other {
		row[k] = row[k] || isSet
	}
}
