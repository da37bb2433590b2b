package order_test

import (
	"fmt"
	"math"
	"math/rand"
	"reflect"
	"slices"
	"testing"

	"sleuth/api"
	"sleuth/graph"
	"sleuth/order"
	"sleuth/skew"
	"sleuth/span"
)

// record returns a valid record of the trace 1.
func record(id, clock, start, end int) api.Span {
	return api.Span{Trace: 1, Id: id, Clock: clock, Kind: api.Internal, Service: "api", Operation: "get", Start: start, End: end}
}

// start and end return the events of a span of the trace 1.
func start(id int) api.Event { return api.Event{Span: api.Ref{Trace: 1, Id: id}} }
func end(id int) api.Event   { return api.Event{Span: api.Ref{Trace: 1, Id: id}, End: true} }

func edges(l ...int) []graph.Edge {
	var edges []graph.Edge
	for k := 0; k < len(l); k += 2 {
		edges = append(edges, graph.Edge{From: l[k], To: l[k+1]})
	}
	return edges
}

func expectEvents(t *testing.T, what string, got []api.Event, f api.Errno, want []api.Event, wantErr api.Errno) {
	t.Helper()
	if !slices.Equal(got, want) || f != wantErr {
		t.Errorf("%s: %v, %d; want %v, %d", what, got, f, want, wantErr)
	}
}

func expectGraph(t *testing.T, what string, got graph.Graph, f api.Errno, want graph.Graph, wantErr api.Errno) {
	t.Helper()
	if !graph.Equal(got, want) || f != wantErr {
		t.Errorf("%s: %v, %d; want %v, %d", what, got, f, want, wantErr)
	}
}

// P16.1: the points of the winners.
func TestAt(t *testing.T) {
	late := record(2, 5, 10, 20)
	late.Revision = 1
	other := record(2, 7, 30, 40)
	other.Trace = 2
	l := []api.Span{late, record(2, 4, 1, 2), record(3, 4, 5, 5), other}
	for _, c := range []struct {
		v    api.Event
		want order.Point
		e    api.Errno
	}{
		{start(2), at(5, 10), api.OK},
		{end(2), at(5, 20), api.OK},
		{start(3), at(4, 5), api.OK},
		{end(3), at(4, 5), api.OK},
		{api.Event{Span: api.Ref{Trace: 2, Id: 2}}, at(7, 30), api.OK},
		{api.Event{Span: api.Ref{Trace: 2, Id: 2}, End: true}, at(7, 40), api.OK},
		{start(1), order.Point{}, api.ErrNotFound},
		{api.Event{Span: api.Ref{Trace: 2, Id: 3}}, order.Point{}, api.ErrNotFound},
		{api.Event{}, order.Point{}, api.ErrNotFound},
	} {
		got, f := order.At(l, c.v)
		if got != c.want || f != c.e {
			t.Errorf("At(%v): %v, %d; want %v, %d", c.v, got, f, c.want, c.e)
		}
	}
	_, f := order.At(nil, start(1))
	expectErr(t, "At", f, api.ErrNotFound)
	strange := api.Span{Trace: -1, Id: 0, Clock: -5, Start: math.MaxInt, End: math.MinInt}
	got, f := order.At([]api.Span{strange}, api.Event{Span: api.Ref{Trace: -1}, End: true})
	if got != at(-5, math.MinInt) || f != api.OK {
		t.Errorf("At: %v, %d", got, f)
	}
}

// P16.1: the events of a trace, of each span once.
func TestEvents(t *testing.T) {
	late := record(2, 5, 10, 20)
	late.Revision = 1
	other := record(9, 7, 30, 40)
	other.Trace = 2
	l := []api.Span{late, record(30, 4, 5, 5), other, record(2, 4, 1, 2), record(7, 4, 5, 5), record(7, 4, 5, 5)}
	expectEvents(t, "Events", order.Events(l, 1), api.OK, []api.Event{start(2), end(2), start(7), end(7), start(30), end(30)}, api.OK)
	ofOther := api.Ref{Trace: 2, Id: 9}
	expectEvents(t, "Events", order.Events(l, 2), api.OK, []api.Event{{Span: ofOther}, {Span: ofOther, End: true}}, api.OK)
	expectEvents(t, "Events", order.Events(l, 3), api.OK, nil, api.OK)
	expectEvents(t, "Events", order.Events(nil, 1), api.OK, nil, api.OK)
}

// P16.5: a client and its server, and a span of a clock of which nothing is known. The server starts 5 to 15 after the client, and ends 5 to 15 before it.
func TestCertain(t *testing.T) {
	e := evidenceOf(t, 1, 2, 105, 2, 1, -95)
	l := []api.Span{record(4, 9, 3, 8), record(1, 1, 0, 100), record(2, 2, 110, 190)}
	g, f := order.Certain(e, l, 1)
	expectGraph(t, "Certain", g, f, graph.Graph{Count: 6, Edges: edges(0, 1, 0, 2, 0, 3, 2, 1, 2, 3, 3, 1, 4, 5)}, api.OK)
	g, f = order.Reduced(e, l, 1)
	expectGraph(t, "Reduced", g, f, graph.Graph{Count: 6, Edges: edges(0, 2, 2, 3, 3, 1, 4, 5)}, api.OK)
	events, f := order.Linear(e, l, 1)
	expectEvents(t, "Linear", events, f, []api.Event{start(1), start(2), end(2), end(1), start(4), end(4)}, api.OK)
	// If the server can start with the client, nothing is certain about their starts.
	l[2].Start = 105
	g, f = order.Certain(e, l, 1)
	expectGraph(t, "Certain", g, f, graph.Graph{Count: 6, Edges: edges(0, 1, 0, 3, 2, 1, 2, 3, 3, 1, 4, 5)}, api.OK)
	events, f = order.Linear(e, l, 1)
	expectEvents(t, "Linear", events, f, []api.Event{start(1), start(2), end(2), end(1), start(4), end(4)}, api.OK)
}

// P16.5: spans without a duration, and several events at one point.
func TestEqualPoints(t *testing.T) {
	e := evidenceOf(t)
	l := []api.Span{record(1, 3, 5, 5), record(2, 3, 5, 5), record(3, 3, 4, 5), record(4, 3, 5, 6)}
	g, f := order.Certain(e, l, 1)
	expectGraph(t, "Certain", g, f, graph.Graph{Count: 8, Edges: edges(0, 7, 1, 7, 2, 7, 3, 7, 4, 0, 4, 1, 4, 2, 4, 3, 4, 5, 4, 6, 4, 7, 5, 7, 6, 7)}, api.OK)
	events, f := order.Linear(e, l, 1)
	expectEvents(t, "Linear", events, f, []api.Event{start(3), start(1), end(1), start(2), end(2), end(3), start(4), end(4)}, api.OK)
}

// P16.5: traces without spans, and the errors in their order.
func TestCertainErrors(t *testing.T) {
	e := evidenceOf(t, 1, 2, 0, 3, 3, -1, 3, 4, 0)
	many := func(count, clock int) []api.Span {
		var l []api.Span
		for id := 1; id <= count; id++ {
			l = append(l, record(id, clock, id, id), record(id, clock, id-1, id))
		}
		return append(l, record(count, 1, 0, count))
	}
	other := record(1, 3, 0, 1)
	other.Trace = 2
	lost := record(1, 1, 0, 1)
	lost.Clock, lost.Revision = 3, 0
	won := record(1, 1, 0, 1)
	won.Revision = 1
	for _, c := range []struct {
		e    *skew.Evidence
		l    []api.Span
		want int
		f    api.Errno
	}{
		{nil, nil, 0, api.ErrArgument},
		{nil, many(129, 3), 0, api.ErrArgument},
		{e, nil, 0, api.OK},
		{e, []api.Span{other}, 0, api.OK},
		{e, []api.Span{other, lost, won}, 2, api.OK},
		{e, []api.Span{record(1, 9, 0, 1), record(2, 8, 0, 1)}, 4, api.OK},
		{e, many(128, 2), 256, api.OK},
		{e, many(129, 2), 0, api.ErrLimit},
		{e, many(129, 3), 0, api.ErrLimit},
		{e, many(128, 3), 0, api.ErrInfeasible},
		{e, []api.Span{record(1, 1, 0, 1), record(2, 9, 0, 1), record(3, 4, 7, 8)}, 0, api.ErrInfeasible},
		{e, []api.Span{record(3, 4, 7, 7)}, 0, api.ErrInfeasible},
		{e, []api.Span{lost}, 0, api.ErrInfeasible},
	} {
		what := fmt.Sprint(" of ", len(c.l), " records")
		g, f := order.Certain(c.e, c.l, 1)
		if g.Count != c.want || c.want == 0 && len(g.Edges) > 0 {
			t.Errorf("Certain%s: %v", what, g)
		}
		expectErr(t, "Certain"+what, f, c.f)
		g, f = order.Reduced(c.e, c.l, 1)
		if g.Count != c.want || c.want == 0 && len(g.Edges) > 0 {
			t.Errorf("Reduced%s: %v", what, g)
		}
		expectErr(t, "Reduced"+what, f, c.f)
		events, f := order.Linear(c.e, c.l, 1)
		if len(events) != c.want {
			t.Errorf("Linear%s: %v", what, events)
		}
		expectErr(t, "Linear"+what, f, c.f)
	}
}

// someTrace returns records of few spans and clocks, some of which are no winners, or of another trace.
func someTrace(random *rand.Rand) []api.Span {
	var l []api.Span
	for range random.Intn(8) {
		s := record(1+random.Intn(6), 1+random.Intn(5), random.Intn(9), 0)
		s.End = s.Start + random.Intn(4)
		s.Revision = random.Intn(2)
		s.Trace = 1 + random.Intn(6)/5
		l = append(l, s)
	}
	return l
}

// P16.5 and P16.6: the definitions, for many traces.
func TestCertainMany(t *testing.T) {
	random := rand.New(rand.NewSource(4))
	ordered := 0
	for range 1000 {
		e, l := someEvidence(t, random), someTrace(random)
		if slices.ContainsFunc(span.Of(l, 1), func(s api.Span) bool { return hasContradiction(e, s.Clock) }) {
			_, f := order.Certain(e, l, 1)
			expectErr(t, "Certain", f, api.ErrInfeasible)
			continue
		}
		events, isBefore := relation(t, e, l)
		g, f := order.Certain(e, l, 1)
		expectGraph(t, "Certain", g, f, graph.Graph{Count: len(events), Edges: pairs(isBefore)}, api.OK)
		ordered += len(g.Edges)
		expectTransitive(t, isBefore)
		g, f = order.Reduced(e, l, 1)
		expectGraph(t, "Reduced", g, f, graph.Graph{Count: len(events), Edges: pairs(direct(isBefore))}, api.OK)
		linear, f := order.Linear(e, l, 1)
		var want []api.Event
		for _, n := range least(isBefore) {
			want = append(want, events[n])
		}
		expectEvents(t, "Linear", linear, f, want, api.OK)
	}
	if ordered < 2000 {
		t.Errorf("there are only %d edges", ordered)
	}
}

// relation returns the events of the trace 1, and for each two of them whether Compare says that the one is before the other one.
func relation(t *testing.T, e *skew.Evidence, l []api.Span) ([]api.Event, [][]bool) {
	t.Helper()
	events := order.Events(l, 1)
	isBefore := make([][]bool, len(events))
	for i, v := range events {
		for _, w := range events {
			x, _ := order.At(l, v)
			y, _ := order.At(l, w)
			known, f := order.Compare(e, x, y)
			expectErr(t, "Compare", f, api.OK)
			isBefore[i] = append(isBefore[i], known == order.Before)
			if v.Span == w.Span && !v.End && w.End && (known == order.After || known == order.NotBefore) {
				t.Errorf("%v is not before %v", v, w)
			}
		}
	}
	return events, isBefore
}

// pairs returns the edges of a relation.
func pairs(isBefore [][]bool) []graph.Edge {
	var l []graph.Edge
	for i, row := range isBefore {
		for j, is := range row {
			if is {
				l = append(l, graph.Edge{From: i, To: j})
			}
		}
	}
	return l
}

// expectTransitive looks for cycles, and for edges that are missing.
func expectTransitive(t *testing.T, isBefore [][]bool) {
	t.Helper()
	for i := range isBefore {
		for j := range isBefore {
			for k := range isBefore {
				if isBefore[i][j] && isBefore[j][k] && (!isBefore[i][k] || i == k) {
					t.Errorf("the events %d, %d and %d", i, j, k)
				}
			}
		}
	}
}

// direct returns a relation without the pairs between which there is something.
func direct(isBefore [][]bool) [][]bool {
	var rows [][]bool
	for _, row := range isBefore {
		is := slices.Clone(row)
		for j := range row {
			for k := range row {
				if row[k] && isBefore[k][j] {
					is[j] = false
				}
			}
		}
		rows = append(rows, is)
	}
	return rows
}

// least returns the least order in which everything comes after what is before it.
func least(isBefore [][]bool) []int {
	var order []int
	isFree := func(n int) bool {
		for k := range isBefore {
			if isBefore[k][n] && !slices.Contains(order, k) {
				return false
			}
		}
		return !slices.Contains(order, n)
	}
	for range isBefore {
		for n := range isBefore {
			if isFree(n) {
				order = append(order, n)
				break
			}
		}
	}
	return order
}

// P16.6: further messages never take an edge away.
func TestCertainStays(t *testing.T) {
	random := rand.New(rand.NewSource(5))
	for range 500 {
		e, l := someEvidence(t, random), someTrace(random)
		more, _ := e.With(someEvidence(t, random).Messages())
		was, _ := order.Certain(e, l, 1)
		is, f := order.Certain(more, l, 1)
		for _, edge := range was.Edges {
			if f == api.OK && !slices.Contains(is.Edges, edge) {
				t.Errorf("%v is not certain any more", edge)
			}
		}
	}
}

// P1: records and traces that are not valid.
func TestStrangeRecords(t *testing.T) {
	e := evidenceOf(t, 1, 2, 0)
	low := api.Span{Trace: math.MinInt, Id: math.MinInt, Clock: math.MinInt, Start: math.MaxInt, End: math.MinInt}
	high := api.Span{Trace: math.MinInt, Clock: math.MaxInt, Start: math.MinInt, End: math.MaxInt}
	backwards := record(1, 1, 9, 3)
	l := []api.Span{low, high, {}, backwards, record(2, 1, 0, math.MaxInt)}
	for _, trace := range []int{math.MinInt, -1, 0, 1, math.MaxInt} {
		order.Events(l, trace)
		order.Certain(e, l, trace)
		order.Reduced(e, l, trace)
		order.Linear(e, l, trace)
	}
	events, f := order.Linear(e, []api.Span{backwards}, 1)
	expectEvents(t, "Linear", events, f, []api.Event{end(1), start(1)}, api.OK)
}

// Rules: arguments are not modified, and results are new.
func TestIndependent(t *testing.T) {
	e := evidenceOf(t, 1, 2, 105, 2, 1, -95)
	given := func() []api.Span {
		return append(make([]api.Span, 0, 4), record(4, 9, 3, 8), record(1, 1, 0, 100), record(2, 2, 110, 190))
	}
	l := given()
	said := func() string {
		events := order.Events(l, 1)
		certain, _ := order.Certain(e, l, 1)
		reduced, _ := order.Reduced(e, l, 1)
		linear, _ := order.Linear(e, l, 1)
		proof, _ := order.Proof(e, at(1, 0), at(2, 0))
		text := fmt.Sprint(events, certain, reduced, linear, proof)
		clear(events)
		clear(certain.Edges)
		clear(reduced.Edges)
		clear(linear)
		clear(proof)
		return text
	}
	before := said()
	if after := said(); after != before {
		t.Errorf("%s, and then %s", before, after)
	}
	if !reflect.DeepEqual(l[:4], append(given(), api.Span{})) {
		t.Error("an argument was modified")
	}
}
