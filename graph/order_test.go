package graph_test

import (
	"fmt"
	"math"
	"math/rand"
	"slices"
	"testing"

	"sleuth/api"
	"sleuth/graph"
)

// P8.4: the components and the graph of them.
func TestComponents(t *testing.T) {
	for _, c := range []struct {
		g    graph.Graph
		want [][]int
		c    graph.Graph
		of   []int
	}{
		{graph.Graph{}, nil, graph.Graph{}, nil},
		{made(t, 2), [][]int{{0}, {1}}, made(t, 2), []int{0, 1}},
		{made(t, 2, 0, 0, 0, 1), [][]int{{0}, {1}}, made(t, 2, 0, 1), []int{0, 1}},
		{made(t, 2, 1, 0, 0, 1), [][]int{{0, 1}}, made(t, 1), []int{0, 0}},
		{made(t, 5, 4, 0, 0, 4, 3, 1, 1, 3, 4, 3, 4, 1, 2, 0), [][]int{{0, 4}, {1, 3}, {2}}, made(t, 3, 0, 1, 2, 0), []int{0, 1, 2, 1, 0}},
		{made(t, 4, 3, 2, 2, 1, 1, 3, 0, 1), [][]int{{0}, {1, 2, 3}}, made(t, 2, 0, 1), []int{0, 1, 1, 1}},
	} {
		expectLists(t, fmt.Sprint("Components of ", c.g), graph.Components(c.g), c.want)
		condensed, of := graph.Condense(c.g)
		expectGraph(t, fmt.Sprint("Condense of ", c.g), condensed, 0, c.c, 0)
		expectInts(t, fmt.Sprint("Condense of ", c.g), of, 0, c.of, 0)
	}
}

// P8.4 and P8.8: two nodes are in one component exactly if each reaches the other one, reversing keeps components, and the graph of them has no cycle.
func TestComponentsOfMany(t *testing.T) {
	random := rand.New(rand.NewSource(7))
	for range 500 {
		g := someGraph(t, random, 9)
		distances := steps(g, false)
		var want [][]int
		wantOf := make([]int, g.Count)
		for a := range g.Count {
			var component []int
			for b := range g.Count {
				if distances[a][b] >= 0 && distances[b][a] >= 0 {
					component = append(component, b)
				}
			}
			if component[0] == a {
				want = append(want, component)
			}
			wantOf[a] = slices.IndexFunc(want, func(l []int) bool { return slices.Contains(l, a) })
		}
		var between []int
		for _, edge := range g.Edges {
			if a, b := wantOf[edge.From], wantOf[edge.To]; a != b {
				between = append(between, a, b)
			}
		}
		expectLists(t, fmt.Sprint("Components of ", g), graph.Components(g), want)
		expectLists(t, fmt.Sprint("Components of the reverse of ", g), graph.Components(graph.Reverse(g)), want)
		condensed, of := graph.Condense(g)
		expectGraph(t, fmt.Sprint("Condense of ", g), condensed, 0, made(t, len(want), between...), 0)
		expectInts(t, fmt.Sprint("Condense of ", g), of, 0, wantOf, 0)
		if _, isFound := graph.Cycle(condensed); isFound {
			t.Errorf("%v has a cycle of components", g)
		}
	}
}

// leastOrder returns the least topological order, found by trying each node for each place.
func leastOrder(g graph.Graph, before []int) []int {
	if len(before) == g.Count {
		return before
	}
	for n := range g.Count {
		isReady := !slices.Contains(before, n)
		for m := range g.Count {
			isReady = isReady && (!hasEdge(g, m, n) || slices.Contains(before, m))
		}
		if isReady {
			if order := leastOrder(g, append(slices.Clone(before), n)); order != nil {
				return order
			}
		}
	}
	return nil
}

// P8.5 and P8.8: Order, and there is one exactly if there is no cycle.
func TestOrder(t *testing.T) {
	for _, c := range []struct {
		g    graph.Graph
		want []int
		e    api.Errno
	}{
		{graph.Graph{}, nil, api.OK},
		{made(t, 3), []int{0, 1, 2}, api.OK},
		{made(t, 1, 0, 0), nil, api.ErrCycle},
		{made(t, 3, 2, 1, 1, 0), []int{2, 1, 0}, api.OK},
		{made(t, 4, 3, 0, 2, 1), []int{2, 1, 3, 0}, api.OK},
		{made(t, 5, 4, 0, 1, 3, 0, 3), []int{1, 2, 4, 0, 3}, api.OK},
		{made(t, 4, 0, 1, 2, 3, 3, 2), nil, api.ErrCycle},
	} {
		l, e := graph.Order(c.g)
		expectInts(t, fmt.Sprint("Order of ", c.g), l, e, c.want, c.e)
	}
	random := rand.New(rand.NewSource(8))
	for range 300 {
		g := withoutCycles(t, random, 6)
		l, e := graph.Order(g)
		expectInts(t, fmt.Sprint("Order of ", g), l, e, leastOrder(g, nil), api.OK)
		g = someGraph(t, random, 5)
		_, hasCycle := graph.Cycle(g)
		if _, e := graph.Order(g); (e == api.ErrCycle) != hasCycle || (e == api.OK) == hasCycle {
			t.Errorf("Order of %v: %d", g, e)
		}
	}
}

// without returns a graph without the edges of a node.
func without(g graph.Graph, n int) graph.Graph {
	isOther := func(edge graph.Edge) bool { return edge.From != n && edge.To != n }
	left := graph.Graph{Count: g.Count}
	for _, edge := range g.Edges {
		if isOther(edge) {
			left.Edges = append(left.Edges, edge)
		}
	}
	return left
}

// immediate returns the immediate dominators: of the dominators of a node other than itself, that which all others of these dominate. A node dominates what the root reaches only through it.
func immediate(g graph.Graph, root int) []int {
	distances := steps(g, false)
	dominates := make([][]bool, g.Count)
	for d := range g.Count {
		rest := steps(without(g, d), false)
		dominates[d] = make([]bool, g.Count)
		for n := range g.Count {
			dominates[d][n] = distances[root][n] >= 0 && (d == n || d == root || rest[root][n] < 0)
		}
	}
	above := slices.Repeat([]int{-1}, g.Count)
	for n := range g.Count {
		for d := range g.Count {
			isLast := d != n && dominates[d][n]
			for other := range g.Count {
				isLast = isLast && (other == n || !dominates[other][n] || dominates[other][d])
			}
			if isLast {
				above[n] = d
			}
		}
	}
	return above
}

// P8.6.
func TestDominators(t *testing.T) {
	for _, c := range []struct {
		g    graph.Graph
		root int
		want []int
		e    api.Errno
	}{
		{made(t, 1), 0, []int{-1}, api.OK},
		{made(t, 1, 0, 0), 0, []int{-1}, api.OK},
		{made(t, 3, 0, 1), 0, []int{-1, 0, -1}, api.OK},
		{made(t, 3, 0, 1), 2, []int{-1, -1, -1}, api.OK},
		{made(t, 3, 0, 1, 1, 0, 1, 2), 1, []int{1, -1, 1}, api.OK},
		{made(t, 4, 3, 2, 2, 1, 1, 0, 0, 2), 3, []int{1, 2, 3, -1}, api.OK},
		{made(t, 6, 0, 1, 1, 2, 2, 3, 1, 3, 3, 4, 5, 4), 0, []int{-1, 0, 1, 1, 3, -1}, api.OK},
		{made(t, 5, 4, 3, 4, 2, 3, 0, 2, 1, 1, 0, 0, 1), 4, []int{4, 4, 4, 4, -1}, api.OK},
		{made(t, 3), 3, nil, api.ErrNotFound},
		{made(t, 3), -1, nil, api.ErrNotFound},
		{made(t, 3), math.MaxInt, nil, api.ErrNotFound},
		{graph.Graph{}, 0, nil, api.ErrNotFound},
	} {
		l, e := graph.Dominators(c.g, c.root)
		expectInts(t, fmt.Sprint("Dominators of ", c.g, c.root), l, e, c.want, c.e)
	}
	random := rand.New(rand.NewSource(9))
	for range 1000 {
		g := someGraph(t, random, 8)
		root := random.Intn(g.Count)
		l, e := graph.Dominators(g, root)
		expectInts(t, fmt.Sprint("Dominators of ", g, root), l, e, immediate(g, root), api.OK)
	}
}

// P8.7 and P8.8: the closure, and the closure of it.
func TestClose(t *testing.T) {
	expectGraph(t, "Close", graph.Close(graph.Graph{}), 0, graph.Graph{}, 0)
	expectGraph(t, "Close", graph.Close(made(t, 4, 0, 1, 1, 2)), 0, made(t, 4, 0, 1, 0, 2, 1, 2), 0)
	expectGraph(t, "Close", graph.Close(made(t, 3, 0, 1, 1, 0, 2, 2)), 0, made(t, 3, 0, 0, 0, 1, 1, 0, 1, 1, 2, 2), 0)
	random := rand.New(rand.NewSource(10))
	for range 300 {
		g := someGraph(t, random, 8)
		var ends []int
		for a, row := range steps(g, true) {
			for b, distance := range row {
				if distance > 0 {
					ends = append(ends, a, b)
				}
			}
		}
		closed := graph.Close(g)
		expectGraph(t, fmt.Sprint("Close of ", g), closed, 0, made(t, g.Count, ends...), 0)
		expectGraph(t, fmt.Sprint("Close of Close of ", g), graph.Close(closed), 0, closed, 0)
	}
}

// lessOne returns a graph without one of its edges.
func lessOne(g graph.Graph, k int) graph.Graph {
	return graph.Graph{Count: g.Count, Edges: slices.Delete(slices.Clone(g.Edges), k, k+1)}
}

// P8.7 and P8.8: the reduction, whose closure is that of the graph, and of which no edge can be left out.
func TestReduce(t *testing.T) {
	for _, c := range []struct {
		g, want graph.Graph
		e       api.Errno
	}{
		{graph.Graph{}, graph.Graph{}, api.OK},
		{made(t, 3), made(t, 3), api.OK},
		{made(t, 4, 3, 2, 2, 1, 3, 1, 3, 0, 1, 0), made(t, 4, 1, 0, 2, 1, 3, 2), api.OK},
		{made(t, 4, 0, 1, 0, 2, 1, 3, 2, 3, 0, 3), made(t, 4, 0, 1, 0, 2, 1, 3, 2, 3), api.OK},
		{made(t, 1, 0, 0), graph.Graph{}, api.ErrCycle},
		{made(t, 4, 0, 1, 2, 3, 3, 2), graph.Graph{}, api.ErrCycle},
	} {
		reduced, e := graph.Reduce(c.g)
		expectGraph(t, fmt.Sprint("Reduce of ", c.g), reduced, e, c.want, c.e)
	}
	random := rand.New(rand.NewSource(11))
	for range 300 {
		g := withoutCycles(t, random, 8)
		reduced, e := graph.Reduce(g)
		closed := graph.Close(g)
		if e != api.OK || graph.Check(reduced) != api.OK || !graph.Equal(graph.Close(reduced), closed) {
			t.Errorf("Reduce of %v: %v, %d", g, reduced, e)
		}
		for k, edge := range reduced.Edges {
			if !hasEdge(g, edge.From, edge.To) || graph.Equal(graph.Close(lessOne(reduced, k)), closed) {
				t.Errorf("Reduce of %v: %v has the edge %v", g, reduced, edge)
			}
		}
	}
}

// P8.3 to P8.7: a graph with as many nodes as permitted, one after another.
func TestLongChain(t *testing.T) {
	var ends, want []int
	for n := range most {
		want = append(want, n)
		if n > 0 {
			ends = append(ends, n-1, n)
		}
	}
	g := made(t, most, ends...)
	path, e := graph.Path(g, 0, most-1)
	expectInts(t, "Path", path, e, want, api.OK)
	order, e := graph.Order(g)
	expectInts(t, "Order", order, e, want, api.OK)
	above, e := graph.Dominators(g, 0)
	expectInts(t, "Dominators", above, e, append([]int{-1}, want[:most-1]...), api.OK)
	closed := graph.Close(g)
	if len(closed.Edges) != most*(most-1)/2 {
		t.Errorf("Close: %d edges", len(closed.Edges))
	}
	reduced, e := graph.Reduce(closed)
	expectGraph(t, "Reduce", reduced, e, g, api.OK)
	if n := len(graph.Components(g)); n != most {
		t.Errorf("Components: %d", n)
	}
	ring := made(t, most, append(ends, most-1, 0)...)
	expectLists(t, "Components", graph.Components(ring), [][]int{want})
	cycle, isFound := graph.Cycle(ring)
	if !slices.Equal(cycle, want) || !isFound {
		t.Errorf("Cycle: %v, %v", cycle, isFound)
	}
}

// clone returns a copy of a graph.
func clone(g graph.Graph) graph.Graph {
	return graph.Graph{Count: g.Count, Edges: slices.Clone(g.Edges)}
}

// Rules: no function modifies its arguments, and results share nothing with them, nor with one another.
func TestIndependent(t *testing.T) {
	g := made(t, 5, 0, 1, 1, 2, 2, 3, 0, 3, 3, 4)
	given := clone(g)
	l := edges(0, 1)
	again, _ := graph.Make(2, l)
	l[0] = graph.Edge{}
	expectGraph(t, "Make", again, 0, made(t, 2, 0, 1), 0)
	for range 2 {
		reduced, _ := graph.Reduce(g)
		condensed, of := graph.Condense(g)
		order, _ := graph.Order(g)
		above, _ := graph.Dominators(g, 0)
		distances, _ := graph.Distances(g, 0)
		path, _ := graph.Path(g, 0, 4)
		reach, _ := graph.Reach(g, []int{0})
		cycle, _ := graph.Cycle(g)
		for _, made := range []graph.Graph{reduced, condensed, graph.Reverse(g), graph.Close(g)} {
			clear(made.Edges)
		}
		for _, made := range [][]int{of, order, above, distances, path, reach, cycle, graph.Out(g, 0), graph.In(g, 3)} {
			clear(made)
		}
		expectGraph(t, "the argument", g, 0, given, 0)
	}
	components := graph.Components(made(t, 4, 0, 1, 1, 0, 2, 3, 3, 2))
	components[0] = append(components[0], 7)
	expectLists(t, "Components", components, [][]int{{0, 1, 7}, {2, 3}})
}
