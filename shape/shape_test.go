package shape_test

import (
	"fmt"
	"math"
	"math/rand"
	"reflect"
	"slices"
	"strings"
	"testing"

	"sleuth/api"
	"sleuth/shape"
	"sleuth/span"
)

// of returns a shape. Its name is a service and an operation with a slash between them.
func of(name string, children ...shape.Shape) shape.Shape {
	service, operation, _ := strings.Cut(name, "/")
	return shape.Shape{Service: service, Operation: operation, Children: children}
}

// plain returns a shape with nil for all lists that are empty.
func plain(s shape.Shape) shape.Shape {
	var children []shape.Shape
	for _, c := range s.Children {
		children = append(children, plain(c))
	}
	s.Children = children
	return s
}

func expectShape(t *testing.T, what string, got, want shape.Shape) {
	t.Helper()
	if !reflect.DeepEqual(plain(got), plain(want)) {
		t.Errorf("%s: %v, want %v", what, got, want)
	}
}

func expectErr(t *testing.T, what string, got, want api.Errno) {
	t.Helper()
	if got != want {
		t.Errorf("%s: the error %d, want %d", what, got, want)
	}
}

func expectInt(t *testing.T, what string, got, want int) {
	t.Helper()
	if got != want {
		t.Errorf("%s: %d, want %d", what, got, want)
	}
}

func expectBool(t *testing.T, what string, got, want bool) {
	t.Helper()
	if got != want {
		t.Errorf("%s: %v", what, got)
	}
}

// record returns a record of the trace 1, whose name is as for of.
func record(id, parent int, name string) api.Span {
	service, operation, _ := strings.Cut(name, "/")
	return api.Span{Trace: 1, Id: id, Parent: parent, Clock: 1, Kind: api.Server, Service: service, Operation: operation}
}

// someShape returns a shape with so many nodes, few names and children in any order.
func someShape(r *rand.Rand, nodes int) shape.Shape {
	s := of([]string{"a/x", "a/y", "b/x", "", "ab/", "/x"}[r.Intn(6)])
	nodes--
	for nodes > 0 {
		size := 1 + r.Intn(nodes)
		s.Children = append(s.Children, someShape(r, size))
		nodes -= size
	}
	return s
}

// shuffled returns a shape with the children of each node in another order.
func shuffled(r *rand.Rand, s shape.Shape) shape.Shape {
	var children []shape.Shape
	for _, k := range r.Perm(len(s.Children)) {
		children = append(children, shuffled(r, s.Children[k]))
	}
	s.Children = children
	return s
}

// chain returns a shape of so many nodes one below another.
func chain(nodes int) shape.Shape {
	s := of("a/x")
	for range nodes - 1 {
		s = of("a/x", s)
	}
	return s
}

// someRecords returns records of the traces 1 and 2, with revisions, repetitions, orphans and cycles.
func someRecords(r *rand.Rand, size int) []api.Span {
	var l []api.Span
	for range r.Intn(size + 1) {
		s := record(1+r.Intn(size), r.Intn(size+3), []string{"a/x", "a/y", "b/x"}[r.Intn(3)])
		s.Trace, s.Revision, s.Start, s.End = 1+r.Intn(2), r.Intn(3), r.Intn(10), 10+r.Intn(10)
		if l = append(l, s); r.Intn(4) == 0 {
			l = append(l, l[r.Intn(len(l))])
		}
	}
	return l
}

// a model is the winners of a trace by their ids.
type model map[int]api.Span

func modelOf(l []api.Span, trace int) model {
	m := model{}
	for _, s := range l {
		last, isThere := m[s.Id]
		if s.Trace == trace && (!isThere || span.Compare(s, last) > 0) {
			m[s.Id] = s
		}
	}
	return m
}

// isTop reports whether a span is a root or an orphan.
func (m model) isTop(id int) bool {
	_, hasParent := m[m[id].Parent]
	return m[id].Parent == 0 || !hasParent
}

// isCyclic reports whether no way up leads to a root or an orphan.
func (m model) isCyclic(id int) bool {
	for range m {
		if m.isTop(id) {
			return false
		}
		id = m[id].Parent
	}
	return true
}

// shape returns the canonical shape of a span, and below those of the spans that satisfy a condition.
func (m model) shape(id int) shape.Shape {
	s := of(m[id].Service + "/" + m[id].Operation)
	s.Children = m.below(func(child int) bool { return m[child].Parent == id && !m.isTop(child) })
	return s
}

func (m model) below(isChosen func(id int) bool) []shape.Shape {
	var l []shape.Shape
	for id := range m {
		if isChosen(id) {
			l = append(l, m.shape(id))
		}
	}
	slices.SortFunc(l, compareModels)
	return l
}

// P20.1: the shape of a span, and its errors.
func TestOf(t *testing.T) {
	l := []api.Span{
		record(1, 0, "api/get"), record(9, 1, "db/get"), record(5, 1, "db/get"), record(7, 1, "cache/get"),
		record(4, 5, "disk/read"), record(2, 8, "web/show"), record(3, 2, "api/get"), record(20, 21, "a/x"), record(21, 20, "b/x"), record(22, 21, "c/x"), record(23, 23, "d/x"),
	}
	disk := of("disk/read")
	for _, c := range []struct {
		trace, id int
		want      shape.Shape
		e         api.Errno
	}{
		{1, 1, of("api/get", of("cache/get"), of("db/get"), of("db/get", disk)), api.OK},
		{1, 5, of("db/get", disk), api.OK},
		{1, 9, of("db/get"), api.OK},
		{1, 4, disk, api.OK},
		{1, 2, of("web/show", of("api/get")), api.OK},
		{1, 3, of("api/get"), api.OK},
		{1, 8, shape.Shape{}, api.ErrNotFound},
		{1, 0, shape.Shape{}, api.ErrNotFound},
		{1, -1, shape.Shape{}, api.ErrNotFound},
		{2, 1, shape.Shape{}, api.ErrNotFound},
		{0, 20, shape.Shape{}, api.ErrNotFound},
		{math.MinInt, math.MaxInt, shape.Shape{}, api.ErrNotFound},
		{1, 20, shape.Shape{}, api.ErrCycle},
		{1, 21, shape.Shape{}, api.ErrCycle},
		{1, 22, shape.Shape{}, api.ErrCycle},
		{1, 23, shape.Shape{}, api.ErrCycle},
	} {
		what := fmt.Sprintf("Of %d, %d", c.trace, c.id)
		got, e := shape.Of(l, api.Ref{Trace: c.trace, Id: c.id})
		expectErr(t, what, e, c.e)
		expectShape(t, what, got, c.want)
	}
	_, e := shape.Of(nil, api.Ref{Trace: 1, Id: 1})
	expectErr(t, "Of nothing", e, api.ErrNotFound)
	expectShape(t, "Trace", shape.Trace(l, 1), of("",
		of("api/get", of("cache/get"), of("db/get"), of("db/get", disk)),
		of("web/show", of("api/get")),
	))
}

// P20.1: traces without spans, or with cyclic ones only, and traces beside one another.
func TestTrace(t *testing.T) {
	cycle := []api.Span{record(1, 2, "a/x"), record(2, 1, "a/x"), record(3, 2, "a/x"), record(4, 4, "a/x")}
	other := record(1, 0, "b/x")
	other.Trace = 2
	both := append(slices.Clone(cycle), other)
	for _, c := range []struct {
		l     []api.Span
		trace int
		want  shape.Shape
	}{
		{nil, 1, shape.Shape{}},
		{nil, math.MinInt, shape.Shape{}},
		{cycle, 1, shape.Shape{}},
		{cycle, 2, shape.Shape{}},
		{both, 1, shape.Shape{}},
		{both, 2, of("", of("b/x"))},
		{[]api.Span{record(1, 0, "b/x"), record(2, 0, "a/x"), record(3, 9, "a/y"), record(4, 9, "a/w")}, 1, of("", of("a/w"), of("a/x"), of("a/y"), of("b/x"))},
	} {
		expectShape(t, fmt.Sprintf("Trace %d of %v", c.trace, c.l), shape.Trace(c.l, c.trace), c.want)
	}
}

// P20.1: the winner of several revisions decides its name, and where it is.
func TestWinnersDecide(t *testing.T) {
	late := record(3, 2, "c/new")
	late.Revision = 1
	l := []api.Span{late, record(1, 0, "a/x"), record(2, 1, "b/x"), record(3, 1, "c/old")}
	expectShape(t, "Trace", shape.Trace(l, 1), of("", of("a/x", of("b/x", of("c/new")))))
	late.Revision, late.Parent = 2, 3
	l = append(l, late)
	expectShape(t, "Trace", shape.Trace(l, 1), of("", of("a/x", of("b/x"))))
	_, e := shape.Of(l, api.Ref{Trace: 1, Id: 3})
	expectErr(t, "Of a span that has become cyclic", e, api.ErrCycle)
}

// P20.1: shapes are those of a model that follows the terms.
func TestShapesOfModels(t *testing.T) {
	r := rand.New(rand.NewSource(1))
	cycles := 0
	for range 2000 {
		l := someRecords(r, 1+r.Intn(12))
		m := modelOf(l, 1)
		for id := -1; id < 16; id++ {
			got, e := shape.Of(l, api.Ref{Trace: 1, Id: id})
			what := fmt.Sprintf("Of %d in %v", id, l)
			if _, isThere := m[id]; !isThere {
				expectErr(t, what, e, api.ErrNotFound)
				expectShape(t, what, got, shape.Shape{})
			} else if m.isCyclic(id) {
				cycles++
				expectErr(t, what, e, api.ErrCycle)
				expectShape(t, what, got, shape.Shape{})
			} else {
				expectErr(t, what, e, api.OK)
				expectShape(t, what, got, m.shape(id))
			}
		}
		expectShape(t, fmt.Sprint("Trace of ", l), shape.Trace(l, 1), shape.Shape{Children: m.below(m.isTop)})
	}
	if cycles == 0 {
		t.Error("there was no cycle, so nothing was tested")
	}
}

// P20.7: the size of the shape of a trace, also if records are not valid: the roots seem to belong to a span with the id 0.
func TestSizeOfTrace(t *testing.T) {
	r := rand.New(rand.NewSource(2))
	extremes := []int{math.MinInt, -1, 0, 1, math.MaxInt}
	for k := range 1000 {
		l := someRecords(r, 1+r.Intn(10))
		if k%2 == 0 {
			l = append(l, record(0, r.Intn(12), "a/x"))
		}
		for range k % 3 {
			l = append(l, record(extremes[r.Intn(len(extremes))], extremes[r.Intn(len(extremes))], "a/x"))
		}
		for trace := range 4 {
			m, size := modelOf(l, trace), 1
			for id := range m {
				if !m.isCyclic(id) {
					size++
				}
			}
			expectInt(t, fmt.Sprint("Size of ", l), shape.Size(shape.Trace(l, trace)), size)
		}
	}
	for _, parent := range []int{0, 1, 2, 3, 9} {
		l := []api.Span{record(0, parent, "z/x"), record(1, 0, "a/x"), record(2, 1, "b/x"), record(3, 0, "c/x")}
		got, e := shape.Of(l, api.Ref{Trace: 1})
		expectErr(t, "Of the id 0", e, api.OK)
		expectShape(t, "Of the id 0", got, of("z/x"))
	}
}

// P20.7: shapes do not depend on ids, times or the order of records.
func TestShapesOfOtherIds(t *testing.T) {
	r := rand.New(rand.NewSource(3))
	for range 500 {
		var before, after []api.Span
		ids := r.Perm(20)
		for k, id := range ids {
			ids[k] = 1 + id*api.MaxSmall
		}
		for id := range r.Intn(12) {
			s := record(id+1, r.Intn(15), []string{"a/x", "b/x"}[r.Intn(2)])
			before = append(before, s)
			if s.Trace, s.Id = 7, ids[s.Id]; s.Parent > 0 {
				s.Parent = ids[s.Parent]
			}
			s.Clock, s.Start, s.End = 1+r.Intn(3), r.Intn(10), 10+r.Intn(10)
			after = slices.Insert(after, r.Intn(len(after)+1), s)
		}
		expectShape(t, fmt.Sprintf("Trace of %v and %v", before, after), shape.Trace(after, 7), shape.Trace(before, 1))
		for _, s := range before {
			a, e := shape.Of(before, api.Ref{Trace: 1, Id: s.Id})
			b, f := shape.Of(after, api.Ref{Trace: 7, Id: ids[s.Id]})
			expectErr(t, "Of", f, e)
			expectShape(t, "Of", b, a)
		}
	}
}

// trace returns an element whose spans have the names and parents that are given in turn, with the ids from first on. The parents count from 1 on, like the spans.
func trace(id, weight, first int, spans ...any) api.Trace {
	t := api.Trace{Id: id, Weight: weight}
	for k := 0; k < len(spans); k += 2 {
		s := record(first+k/2, 0, spans[k].(string))
		if parent := spans[k+1].(int); parent > 0 {
			s.Parent = first + parent - 1
		}
		s.Trace = id
		t.Spans = append(t.Spans, s)
	}
	return t
}

func expectCounts(t *testing.T, what string, got []shape.Count, want ...shape.Count) {
	t.Helper()
	if len(got) != len(want) {
		t.Errorf("%s: %v, want %v", what, got, want)
		return
	}
	for k, c := range got {
		expectShape(t, fmt.Sprintf("%s, shape %d", what, k), c.Shape, want[k].Shape)
		expectInt(t, fmt.Sprintf("%s, traces %d", what, k), c.Traces, want[k].Traces)
		expectInt(t, fmt.Sprintf("%s, weight %d", what, k), c.Weight, want[k].Weight)
	}
}

// P20.6: the traces of each shape and their weights, the greatest weight first.
func TestCounts(t *testing.T) {
	one, two := of("", of("a/x")), of("", of("a/x", of("b/x"), of("c/x")))
	three := of("", of("a/x", of("b/x", of("c/x"))))
	l := []api.Trace{
		trace(1, 1, 1, "a/x", 0, "b/x", 1, "c/x", 1),
		trace(2, 4, 1, "a/x", 0),
		trace(3, 2, 5, "c/x", 3, "b/x", 3, "a/x", 0),
		trace(4, 3, 1, "a/x", 0, "b/x", 1, "c/x", 2),
		trace(5, 0, 1, "a/x", 0, "b/x", 1, "c/x", 2),
		trace(6, 7, 1),
	}
	expectCounts(t, "Counts", shape.Counts(l),
		shape.Count{Shape: shape.Shape{}, Traces: 1, Weight: 7},
		shape.Count{Shape: one, Traces: 1, Weight: 4},
		shape.Count{Shape: two, Traces: 2, Weight: 3},
		shape.Count{Shape: three, Traces: 2, Weight: 3},
	)
	slices.Reverse(l)
	l = append(l, trace(7, -1, 2, "a/x", 0), trace(7, 0, 4, "a/x", 0), trace(8, -20, 4, "a/x", 0, "b/x", 1, "c/x", 1))
	expectCounts(t, "Counts", shape.Counts(l),
		shape.Count{Shape: shape.Shape{}, Traces: 1, Weight: 7},
		shape.Count{Shape: one, Traces: 3, Weight: 3},
		shape.Count{Shape: three, Traces: 2, Weight: 3},
		shape.Count{Shape: two, Traces: 3, Weight: -17},
	)
	expectCounts(t, "Counts of nothing", shape.Counts(nil))
}

// P20.6: only the spans of an element that are of its trace have a part in its shape.
func TestCountsOfOtherSpans(t *testing.T) {
	x, y := trace(1, 1, 1, "a/x", 0), trace(2, 1, 9, "a/x", 0)
	x.Spans = append(x.Spans, y.Spans...)
	y.Id = 3
	expectCounts(t, "Counts", shape.Counts([]api.Trace{x, y}), shape.Count{Traces: 1, Weight: 1}, shape.Count{Shape: of("", of("a/x")), Traces: 1, Weight: 1})
}

// P20.6: numbers and weights are those of the traces that have the shape.
func TestCountsOfModels(t *testing.T) {
	r := rand.New(rand.NewSource(4))
	for range 300 {
		var l []api.Trace
		for range r.Intn(30) {
			l = append(l, api.Trace{Id: 1 + r.Intn(2), Weight: r.Intn(3), Spans: someRecords(r, 3)})
		}
		counts, traces := shape.Counts(l), 0
		for k, c := range counts {
			want := shape.Count{Shape: c.Shape}
			for _, x := range l {
				if areEqual(c.Shape, shape.Trace(x.Spans, x.Id)) {
					want.Traces, want.Weight = want.Traces+1, want.Weight+x.Weight
				}
			}
			expectCounts(t, "Counts", counts[k:k+1], want)
			traces += c.Traces
			if k > 0 && compareCounts(counts[k-1], c) >= 0 {
				t.Errorf("%v comes before %v", counts[k-1], c)
			}
		}
		expectInt(t, "the traces of all shapes", traces, len(l))
	}
}

// compareCounts says which of two counts comes first.
func compareCounts(a, b shape.Count) int {
	if a.Weight != b.Weight {
		return b.Weight - a.Weight
	}
	if a.Traces != b.Traces {
		return b.Traces - a.Traces
	}
	return compareModels(a.Shape, b.Shape)
}
