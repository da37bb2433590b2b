package graph_test

import (
	"fmt"
	"math"
	"math/rand"
	"slices"
	"testing"

	"sleuth/api"
	"sleuth/graph"
)

// shortest returns the least of the paths with so many edges between two nodes, found by trying all of them.
func shortest(g graph.Graph, from, to, size int) []int {
	if size == 0 {
		if from == to {
			return []int{from}
		}
		return nil
	}
	for next := range g.Count {
		if hasEdge(g, from, next) {
			if rest := shortest(g, next, to, size-1); rest != nil {
				return append([]int{from}, rest...)
			}
		}
	}
	return nil
}

// P8.3: Reach.
func TestReach(t *testing.T) {
	g := made(t, 6, 0, 1, 1, 2, 2, 1, 3, 3, 4, 0)
	for _, c := range []struct {
		from, want []int
		e          api.Errno
	}{
		{nil, nil, api.OK},
		{[]int{0}, []int{0, 1, 2}, api.OK},
		{[]int{2}, []int{1, 2}, api.OK},
		{[]int{3}, []int{3}, api.OK},
		{[]int{5}, []int{5}, api.OK},
		{[]int{4}, []int{0, 1, 2, 4}, api.OK},
		{[]int{5, 2, 5, 2}, []int{1, 2, 5}, api.OK},
		{[]int{5, 4, 3, 2, 1, 0}, []int{0, 1, 2, 3, 4, 5}, api.OK},
		{[]int{6}, nil, api.ErrNotFound},
		{[]int{0, -1}, nil, api.ErrNotFound},
		{[]int{math.MaxInt, 0}, nil, api.ErrNotFound},
	} {
		given := slices.Clone(c.from)
		l, e := graph.Reach(g, c.from)
		expectInts(t, fmt.Sprintf("Reach(%v)", c.from), l, e, c.want, c.e)
		if !slices.Equal(c.from, given) {
			t.Error("the argument of Reach was modified")
		}
	}
	l, e := graph.Reach(graph.Graph{}, nil)
	expectInts(t, "Reach", l, e, nil, api.OK)
	l, e = graph.Reach(graph.Graph{}, []int{0})
	expectInts(t, "Reach", l, e, nil, api.ErrNotFound)
}

// P8.3: Distances, and the errors of both functions with two nodes.
func TestDistances(t *testing.T) {
	g := made(t, 5, 0, 1, 1, 2, 0, 2, 2, 3, 3, 0, 4, 4)
	for _, c := range []struct {
		from int
		want []int
		e    api.Errno
	}{
		{0, []int{0, 1, 1, 2, -1}, api.OK},
		{1, []int{3, 0, 1, 2, -1}, api.OK},
		{4, []int{-1, -1, -1, -1, 0}, api.OK},
		{5, nil, api.ErrNotFound},
		{-1, nil, api.ErrNotFound},
		{math.MinInt, nil, api.ErrNotFound},
	} {
		l, e := graph.Distances(g, c.from)
		expectInts(t, fmt.Sprintf("Distances(%d)", c.from), l, e, c.want, c.e)
	}
	l, e := graph.Distances(graph.Graph{}, 0)
	expectInts(t, "Distances", l, e, nil, api.ErrNotFound)
}

// P8.3: Path.
func TestPath(t *testing.T) {
	g := made(t, 7, 0, 2, 0, 1, 1, 3, 2, 3, 1, 4, 3, 5, 4, 5, 5, 0, 6, 6)
	for _, c := range []struct {
		from, to int
		want     []int
		e        api.Errno
	}{
		{0, 0, []int{0}, api.OK},
		{6, 6, []int{6}, api.OK},
		{0, 3, []int{0, 1, 3}, api.OK},
		{0, 5, []int{0, 1, 3, 5}, api.OK},
		{3, 4, []int{3, 5, 0, 1, 4}, api.OK},
		{0, 6, nil, api.ErrUnreachable},
		{6, 0, nil, api.ErrUnreachable},
		{7, 0, nil, api.ErrNotFound},
		{0, 7, nil, api.ErrNotFound},
		{6, -1, nil, api.ErrNotFound},
		{math.MinInt, math.MaxInt, nil, api.ErrNotFound},
	} {
		l, e := graph.Path(g, c.from, c.to)
		expectInts(t, fmt.Sprintf("Path(%d, %d)", c.from, c.to), l, e, c.want, c.e)
	}
}

// P8.3 and P8.8: all three functions for many graphs, and reversing reverses distances.
func TestPathsOfMany(t *testing.T) {
	random := rand.New(rand.NewSource(4))
	for range 300 {
		g := someGraph(t, random, 6)
		want := steps(g, false)
		for a := range g.Count {
			l, e := graph.Distances(g, a)
			expectInts(t, fmt.Sprint("Distances of ", g, a), l, e, want[a], api.OK)
			for b := range g.Count {
				back, _ := graph.Distances(graph.Reverse(g), b)
				if back[a] != want[a][b] {
					t.Errorf("%v: reversed, the distance from %d to %d is %d", g, b, a, back[a])
				}
				expectPath(t, g, a, b, want[a][b])
			}
			expectReach(t, g, want, a, random.Intn(g.Count))
		}
	}
}

func expectPath(t *testing.T, g graph.Graph, a, b, distance int) {
	t.Helper()
	var want []int
	wantErr := api.ErrUnreachable
	if distance >= 0 {
		want, wantErr = shortest(g, a, b, distance), api.OK
	}
	l, e := graph.Path(g, a, b)
	expectInts(t, fmt.Sprint("Path of ", g, a, b), l, e, want, wantErr)
}

func expectReach(t *testing.T, g graph.Graph, distances [][]int, from ...int) {
	t.Helper()
	var want []int
	for n := range g.Count {
		if slices.ContainsFunc(from, func(a int) bool { return distances[a][n] >= 0 }) {
			want = append(want, n)
		}
	}
	l, e := graph.Reach(g, from)
	expectInts(t, fmt.Sprint("Reach of ", g, from), l, e, want, api.OK)
}

// P8.8: every edge shortens no distance by more than one.
func TestEdgesShortenByOne(t *testing.T) {
	random := rand.New(rand.NewSource(5))
	for range 100 {
		g := someGraph(t, random, 8)
		for from := range g.Count {
			d, _ := graph.Distances(g, from)
			for _, edge := range g.Edges {
				if d[edge.From] >= 0 && (d[edge.To] < 0 || d[edge.To] > d[edge.From]+1) {
					t.Errorf("%v: the distances from %d are %v", g, from, d)
				}
			}
		}
	}
}

// leastCycle returns the least of the shortest cycles of the least node on a cycle, found by trying all paths.
func leastCycle(g graph.Graph) ([]int, bool) {
	for n, row := range steps(g, true) {
		if row[n] > 0 {
			path := shortest(g, n, n, row[n])
			return path[:len(path)-1], true
		}
	}
	return nil, false
}

// P8.5: Cycle.
func TestCycle(t *testing.T) {
	for _, c := range []struct {
		g       graph.Graph
		want    []int
		isFound bool
	}{
		{graph.Graph{}, nil, false},
		{made(t, 3), nil, false},
		{made(t, 3, 0, 1, 1, 2, 0, 2), nil, false},
		{made(t, 1, 0, 0), []int{0}, true},
		{made(t, 3, 0, 1, 1, 0, 0, 0), []int{0}, true},
		{made(t, 4, 0, 1, 1, 2, 2, 1, 3, 3), []int{1, 2}, true},
		{made(t, 4, 0, 3, 3, 0, 0, 2, 2, 0, 1, 1), []int{0, 2}, true},
		{made(t, 5, 0, 1, 1, 4, 4, 0, 0, 2, 2, 3, 3, 0), []int{0, 1, 4}, true},
		{made(t, 5, 0, 3, 3, 1, 3, 2, 2, 0, 1, 0), []int{0, 3, 1}, true},
		{made(t, 3, 0, 0, 0, 1, 1, 0), []int{0}, true},
		{made(t, 3, 2, 2), []int{2}, true},
	} {
		l, isFound := graph.Cycle(c.g)
		if !slices.Equal(l, c.want) || isFound != c.isFound {
			t.Errorf("Cycle(%v): %v, %v", c.g, l, isFound)
		}
	}
	random := rand.New(rand.NewSource(6))
	for range 1000 {
		g := someGraph(t, random, 6)
		want, wantFound := leastCycle(g)
		if l, isFound := graph.Cycle(g); !slices.Equal(l, want) || isFound != wantFound {
			t.Errorf("Cycle(%v): %v, %v; want %v", g, l, isFound, want)
		}
	}
}
