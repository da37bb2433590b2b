package graph_test

import (
	"math"
	"math/rand"
	"slices"
	"testing"

	"sleuth/api"
	"sleuth/graph"
)

const most = graph.MaxNodes

// edges returns the edges between pairs of nodes.
func edges(ends ...int) []graph.Edge {
	var l []graph.Edge
	for k := 0; k < len(ends); k += 2 {
		l = append(l, graph.Edge{From: ends[k], To: ends[k+1]})
	}
	return l
}

// made returns the graph that Make makes.
func made(t *testing.T, count int, ends ...int) graph.Graph {
	t.Helper()
	g, e := graph.Make(count, edges(ends...))
	if e != api.OK {
		t.Fatalf("Make: %d", e)
	}
	return g
}

// someGraph returns a graph with few nodes, and few or many edges.
func someGraph(t *testing.T, random *rand.Rand, size int) graph.Graph {
	t.Helper()
	count := 1 + random.Intn(size)
	var ends []int
	for range random.Intn(1 + count*(1+random.Intn(count))) {
		ends = append(ends, random.Intn(count), random.Intn(count))
	}
	return made(t, count, ends...)
}

// withoutCycles returns a graph whose edges lead from earlier nodes of some order to later ones.
func withoutCycles(t *testing.T, random *rand.Rand, size int) graph.Graph {
	t.Helper()
	g := someGraph(t, random, size)
	order := random.Perm(g.Count)
	var ends []int
	for _, edge := range g.Edges {
		if edge.From != edge.To {
			low, high := min(edge.From, edge.To), max(edge.From, edge.To)
			ends = append(ends, order[low], order[high])
		}
	}
	return made(t, g.Count, ends...)
}

func hasEdge(g graph.Graph, from, to int) bool {
	return slices.Contains(g.Edges, graph.Edge{From: from, To: to})
}

// steps returns the least numbers of edges of the paths between all pairs of nodes, found by trying each node between, and -1 where there is none. If isOpen, a path has at least one edge.
func steps(g graph.Graph, isOpen bool) [][]int {
	const far = 1 << 30
	d := make([][]int, g.Count)
	for a := range d {
		d[a] = slices.Repeat([]int{far}, g.Count)
		for b := range d[a] {
			switch {
			case a == b && !isOpen:
				d[a][b] = 0
			case hasEdge(g, a, b):
				d[a][b] = 1
			}
		}
	}
	for m := range d {
		for a := range d {
			for b := range d {
				d[a][b] = min(d[a][b], d[a][m]+d[m][b])
			}
		}
	}
	for a := range d {
		for b := range d {
			if d[a][b] >= far {
				d[a][b] = -1
			}
		}
	}
	return d
}

func expectInts(t *testing.T, what string, got []int, e api.Errno, want []int, wantErr api.Errno) {
	t.Helper()
	if !slices.Equal(got, want) || e != wantErr {
		t.Errorf("%s: %v, %d; want %v, %d", what, got, e, want, wantErr)
	}
}

func expectLists(t *testing.T, what string, got, want [][]int) {
	t.Helper()
	if !slices.EqualFunc(got, want, slices.Equal[[]int]) {
		t.Errorf("%s: %v; want %v", what, got, want)
	}
}

func expectGraph(t *testing.T, what string, got graph.Graph, e api.Errno, want graph.Graph, wantErr api.Errno) {
	t.Helper()
	if !graph.Equal(got, want) || e != wantErr {
		t.Errorf("%s: %v, %d; want %v, %d", what, got, e, want, wantErr)
	}
}

// P8.3 to P8.7: the examples of the document.
func TestExamples(t *testing.T) {
	g := made(t, 5, 0, 1, 1, 2, 2, 0, 2, 3, 3, 4)
	expectLists(t, "Components", graph.Components(g), [][]int{{0, 1, 2}, {3}, {4}})
	cycle, isFound := graph.Cycle(g)
	if !slices.Equal(cycle, []int{0, 1, 2}) || !isFound {
		t.Errorf("Cycle: %v, %v", cycle, isFound)
	}
	order, e := graph.Order(g)
	expectInts(t, "Order", order, e, nil, api.ErrCycle)
	path, e := graph.Path(g, 1, 4)
	expectInts(t, "Path", path, e, []int{1, 2, 3, 4}, api.OK)

	order, e = graph.Order(made(t, 5, 0, 1, 1, 2, 2, 3, 3, 4))
	expectInts(t, "Order", order, e, []int{0, 1, 2, 3, 4}, api.OK)
	above, e := graph.Dominators(made(t, 5, 0, 1, 0, 2, 1, 3, 2, 3, 3, 4), 0)
	expectInts(t, "Dominators", above, e, []int{-1, 0, 0, 0, 3}, api.OK)

	reduced, e := graph.Reduce(made(t, 3, 0, 1, 1, 2, 0, 2))
	expectGraph(t, "Reduce", reduced, e, made(t, 3, 0, 1, 1, 2), api.OK)
}

// The limit that the document names.
func TestLimit(t *testing.T) {
	if graph.MaxNodes != 256 {
		t.Errorf("MaxNodes: %d", graph.MaxNodes)
	}
}

// P8.1: Make.
func TestMake(t *testing.T) {
	for _, c := range []struct {
		count   int
		l, want []graph.Edge
		e       api.Errno
	}{
		{0, nil, nil, api.OK},
		{0, []graph.Edge{}, nil, api.OK},
		{1, nil, nil, api.OK},
		{1, edges(0, 0), edges(0, 0), api.OK},
		{2, edges(1, 0, 0, 1), edges(0, 1, 1, 0), api.OK},
		{3, edges(2, 2, 2, 0, 0, 2, 0, 1, 2, 0, 0, 1, 2, 2), edges(0, 1, 0, 2, 2, 0, 2, 2), api.OK},
		{most, edges(most-1, 0, 0, most-1), edges(0, most-1, most-1, 0), api.OK},
		{most + 1, nil, nil, api.ErrRange},
		{most + 1, edges(0, most), nil, api.ErrRange},
		{-1, nil, nil, api.ErrRange},
		{-1, edges(0, 0), nil, api.ErrRange},
		{math.MaxInt, edges(0, 1), nil, api.ErrRange},
		{math.MinInt, edges(0, 1), nil, api.ErrRange},
		{0, edges(0, 0), nil, api.ErrNotFound},
		{2, edges(0, 1, 0, 2), nil, api.ErrNotFound},
		{2, edges(2, 0, 0, 1), nil, api.ErrNotFound},
		{2, edges(-1, 0), nil, api.ErrNotFound},
		{2, edges(0, -1), nil, api.ErrNotFound},
		{2, edges(0, math.MaxInt), nil, api.ErrNotFound},
		{2, edges(math.MinInt, 0), nil, api.ErrNotFound},
	} {
		given := slices.Clone(c.l)
		g, e := graph.Make(c.count, c.l)
		want := graph.Graph{}
		if c.e == api.OK {
			want = graph.Graph{Count: c.count, Edges: c.want}
		}
		expectGraph(t, "Make", g, e, want, c.e)
		if !slices.Equal(c.l, given) {
			t.Error("the argument of Make was modified")
		}
	}
}

// P8.1: Make of all edges that there can be, in another order and twice.
func TestMakeAllEdges(t *testing.T) {
	var all []graph.Edge
	for from := range most {
		for to := range most {
			all = append(all, graph.Edge{From: from, To: to})
		}
	}
	given := slices.Concat(all, all)
	rand.New(rand.NewSource(1)).Shuffle(len(given), func(i, j int) { given[i], given[j] = given[j], given[i] })
	g, e := graph.Make(most, given)
	expectGraph(t, "Make", g, e, graph.Graph{Count: most, Edges: all}, api.OK)
	if e := graph.Check(g); e != api.OK {
		t.Errorf("Check: %d", e)
	}
}

// P8.1: Check.
func TestCheck(t *testing.T) {
	for _, c := range []struct {
		count int
		l     []graph.Edge
		e     api.Errno
	}{
		{0, nil, api.OK},
		{0, []graph.Edge{}, api.OK},
		{most, nil, api.OK},
		{2, edges(0, 0, 0, 1, 1, 0, 1, 1), api.OK},
		{most + 1, nil, api.ErrRange},
		{-1, edges(-1, 0, -1, 0), api.ErrRange},
		{2, edges(0, 2), api.ErrNotFound},
		{2, edges(0, 1, 0, 0, 2, 0), api.ErrNotFound},
		{2, edges(0, 0, 0, 0), api.ErrOrder},
		{2, edges(0, 1, 0, 0), api.ErrOrder},
		{2, edges(1, 0, 0, 1), api.ErrOrder},
		{2, edges(0, 0, 0, 1, 1, 0, 0, 1), api.ErrOrder},
	} {
		if e := graph.Check(graph.Graph{Count: c.count, Edges: c.l}); e != c.e {
			t.Errorf("Check(%d, %v): %d, want %d", c.count, c.l, e, c.e)
		}
	}
	random := rand.New(rand.NewSource(2))
	for range 300 {
		g := someGraph(t, random, 6)
		if e := graph.Check(g); e != api.OK {
			t.Errorf("Check(%v): %d", g, e)
		}
		if len(g.Edges) > 0 {
			g.Edges[random.Intn(len(g.Edges))] = graph.Edge{From: random.Intn(g.Count+2) - 1, To: random.Intn(g.Count+2) - 1}
		}
		again, want := graph.Make(g.Count, g.Edges)
		if want == api.OK && !graph.Equal(again, g) {
			want = api.ErrOrder
		}
		if e := graph.Check(g); e != want {
			t.Errorf("Check(%v): %d, want %d", g, e, want)
		}
	}
}

// P8.1: Equal.
func TestEqual(t *testing.T) {
	for _, c := range []struct {
		a, b graph.Graph
		want bool
	}{
		{graph.Graph{}, graph.Graph{}, true},
		{graph.Graph{}, graph.Graph{Edges: []graph.Edge{}}, true},
		{graph.Graph{Count: 1}, graph.Graph{Count: 2}, false},
		{graph.Graph{Count: -1}, graph.Graph{Count: -1}, true},
		{graph.Graph{Count: 2, Edges: edges(0, 1)}, graph.Graph{Count: 2, Edges: edges(0, 1)}, true},
		{graph.Graph{Count: 2, Edges: edges(0, 1)}, graph.Graph{Count: 3, Edges: edges(0, 1)}, false},
		{graph.Graph{Count: 2, Edges: edges(0, 1)}, graph.Graph{Count: 2, Edges: edges(1, 0)}, false},
		{graph.Graph{Count: 2, Edges: edges(0, 1)}, graph.Graph{Count: 2, Edges: edges(1, 1)}, false},
		{graph.Graph{Count: 2, Edges: edges(0, 1)}, graph.Graph{Count: 2, Edges: edges(0, 0)}, false},
		{graph.Graph{Count: 2, Edges: edges(0, 1)}, graph.Graph{Count: 2}, false},
		{graph.Graph{Count: 2, Edges: edges(0, 1)}, graph.Graph{Count: 2, Edges: edges(0, 1, 1, 1)}, false},
		{graph.Graph{Count: 2, Edges: edges(1, 1, 0, 7)}, graph.Graph{Count: 2, Edges: edges(1, 1, 0, 7)}, true},
	} {
		if graph.Equal(c.a, c.b) != c.want || graph.Equal(c.b, c.a) != c.want {
			t.Errorf("Equal(%v, %v) is not %v", c.a, c.b, c.want)
		}
	}
}

// P8.2.
func TestNeighbours(t *testing.T) {
	g := made(t, 4, 3, 0, 0, 3, 1, 3, 0, 1, 0, 0, 2, 1)
	for _, c := range []struct {
		n       int
		out, in []int
	}{
		{0, []int{0, 1, 3}, []int{0, 3}},
		{1, []int{3}, []int{0, 2}},
		{2, []int{1}, nil},
		{3, []int{0}, []int{0, 1}},
		{4, nil, nil},
		{-1, nil, nil},
		{math.MaxInt, nil, nil},
		{math.MinInt, nil, nil},
	} {
		expectInts(t, "Out", graph.Out(g, c.n), 0, c.out, 0)
		expectInts(t, "In", graph.In(g, c.n), 0, c.in, 0)
	}
	expectGraph(t, "Reverse", graph.Reverse(g), 0, made(t, 4, 0, 0, 0, 3, 1, 0, 1, 2, 3, 0, 3, 1), 0)
	expectGraph(t, "Reverse", graph.Reverse(graph.Graph{Count: 3}), 0, graph.Graph{Count: 3}, 0)
	random := rand.New(rand.NewSource(3))
	for range 200 {
		g := someGraph(t, random, 7)
		reversed := graph.Reverse(g)
		if graph.Check(reversed) != api.OK || reversed.Count != g.Count || len(reversed.Edges) != len(g.Edges) {
			t.Errorf("Reverse(%v): %v", g, reversed)
		}
		for a := range g.Count {
			var out, in []int
			for b := range g.Count {
				if hasEdge(g, a, b) {
					out = append(out, b)
				}
				if hasEdge(g, b, a) {
					in = append(in, b)
				}
				if hasEdge(g, a, b) != hasEdge(reversed, b, a) {
					t.Errorf("Reverse(%v): %v", g, reversed)
				}
			}
			expectInts(t, "Out", graph.Out(g, a), 0, out, 0)
			expectInts(t, "In", graph.In(g, a), 0, in, 0)
		}
	}
}

// P1: graphs that Check does not accept do no harm.
func TestGarbage(t *testing.T) {
	huge := graph.Graph{Count: math.MaxInt, Edges: edges(0, math.MaxInt, math.MaxInt, 0)}
	for _, g := range []graph.Graph{
		{},
		{Count: -1},
		{Count: math.MinInt, Edges: edges(0, 1)},
		huge,
		{Count: 1 << 40},
		{Count: 2, Edges: edges(0, 2)},
		{Count: 2, Edges: edges(-1, 0, 0, 5)},
		{Count: 3, Edges: edges(2, 1, 1, 2, 0, 0, 0, 0)},
		{Count: 0, Edges: edges(0, 0)},
	} {
		for _, n := range []int{0, 1, -1, most, math.MaxInt, math.MinInt} {
			graph.Out(g, n)
			graph.In(g, n)
			graph.Reach(g, []int{n, n})
			graph.Distances(g, n)
			graph.Path(g, n, 0)
			graph.Path(g, 0, n)
			graph.Dominators(g, n)
		}
		graph.Reach(g, nil)
		graph.Check(g)
		graph.Equal(g, huge)
		graph.Reverse(g)
		graph.Components(g)
		graph.Condense(g)
		graph.Order(g)
		graph.Cycle(g)
		graph.Close(g)
		graph.Reduce(g)
	}
}
