package shape_test

import (
	"fmt"
	"math/rand"
	"slices"
	"strings"
	"testing"

	"sleuth/shape"
)

// delta returns how many nodes have the path with some names.
func delta(by int, names ...string) shape.Delta {
	d := shape.Delta{By: by}
	for _, name := range names {
		service, operation, _ := strings.Cut(name, "/")
		d.Path = append(d.Path, shape.Name{Service: service, Operation: operation})
	}
	return d
}

func expectDeltas(t *testing.T, what string, got []shape.Delta, want ...shape.Delta) {
	t.Helper()
	isSame := func(a, b shape.Delta) bool { return a.By == b.By && slices.Equal(a.Path, b.Path) }
	if !slices.EqualFunc(got, want, isSame) {
		t.Errorf("%s: %v, want %v", what, got, want)
	}
}

// tally returns how many nodes have each path; a path is written with a separator that no name contains.
func tally(s shape.Shape, before string, counts map[string]int) map[string]int {
	path := before + s.Service + "/" + s.Operation + "|"
	counts[path]++
	for _, child := range s.Children {
		tally(child, path, counts)
	}
	return counts
}

// texts returns the numbers of deltas by their paths, which are written as tally does.
func texts(l []shape.Delta) map[string]int {
	counts := map[string]int{}
	for _, d := range l {
		path := ""
		for _, n := range d.Path {
			path += n.Service + "/" + n.Operation + "|"
		}
		counts[path] += d.By
	}
	return counts
}

func comparePaths(a, b []shape.Name) int {
	return slices.CompareFunc(a, b, func(x, y shape.Name) int {
		if x.Service != y.Service {
			return strings.Compare(x.Service, y.Service)
		}
		return strings.Compare(x.Operation, y.Operation)
	})
}

func expectOrder(t *testing.T, what string, l []shape.Delta) {
	t.Helper()
	for k, d := range l {
		if k > 0 && comparePaths(l[k-1].Path, d.Path) >= 0 {
			t.Errorf("%s: %v comes before %v", what, l[k-1], d)
		}
	}
}

// P20.5: how many nodes have each path, and in which order the paths are.
func TestPaths(t *testing.T) {
	expectDeltas(t, "Paths of an empty shape", shape.Paths(shape.Shape{}), delta(1, ""))
	s := of("web/get", of("b/y", of("z/z")), of("b/x", of("c/x"), of("a/x"), of("c/x")), of("a/z"), of("b/x", of("a/x", of("b/x"))), of("/z"))
	expectDeltas(t, "Paths", shape.Paths(s),
		delta(1, "web/get"),
		delta(1, "web/get", "/z"),
		delta(1, "web/get", "a/z"),
		delta(2, "web/get", "b/x"),
		delta(2, "web/get", "b/x", "a/x"),
		delta(1, "web/get", "b/x", "a/x", "b/x"),
		delta(2, "web/get", "b/x", "c/x"),
		delta(1, "web/get", "b/y"),
		delta(1, "web/get", "b/y", "z/z"),
	)
}

// P20.5, example 2: only paths with other numbers are listed.
func TestDifference(t *testing.T) {
	a := of("api/get", of("db/get"), of("cache/get"), of("db/get"))
	b := of("api/get", of("db/get"))
	expectDeltas(t, "Difference", shape.Difference(a, b), delta(-1, "api/get", "cache/get"), delta(-1, "api/get", "db/get"))
	expectDeltas(t, "Difference", shape.Difference(b, a), delta(1, "api/get", "cache/get"), delta(1, "api/get", "db/get"))
	expectDeltas(t, "Difference of a shape from itself", shape.Difference(a, a))
	expectDeltas(t, "Difference of other roots", shape.Difference(b, of("api/put", of("db/get"), of("db/get"))),
		delta(-1, "api/get"), delta(-1, "api/get", "db/get"), delta(1, "api/put"), delta(2, "api/put", "db/get"))
	expectDeltas(t, "Difference below equal paths", shape.Difference(of("a/x", of("b/x")), of("a/x", of("b/x", of("c/x")))), delta(1, "a/x", "b/x", "c/x"))
}

// P20.7: shapes with the same paths can differ.
func TestSamePathsOfOtherShapes(t *testing.T) {
	a := of("a/x", of("b/x", of("c/x"), of("d/x")), of("b/x"))
	b := of("a/x", of("b/x", of("c/x")), of("b/x", of("d/x")))
	expectDeltas(t, "Difference", shape.Difference(a, b))
	expectBool(t, "Equal", shape.Equal(a, b), false)
}

// P20.5 and P20.7: the numbers are those of the nodes, and differences add up.
func TestPathsOfModels(t *testing.T) {
	r := rand.New(rand.NewSource(31))
	for range 1000 {
		a, b, c := someShape(r, 1+r.Intn(12)), someShape(r, 1+r.Intn(12)), someShape(r, 1+r.Intn(12))
		paths := shape.Paths(a)
		expectOrder(t, fmt.Sprint("Paths of ", a), paths)
		if want := tally(a, "", map[string]int{}); fmt.Sprint(texts(paths)) != fmt.Sprint(want) {
			t.Errorf("Paths of %v: %v, want %v", a, paths, want)
		}
		expectDeltas(t, "Paths of another order", shape.Paths(shuffled(r, a)), paths...)
		ab := shape.Difference(a, b)
		expectOrder(t, fmt.Sprintf("Difference of %v and %v", a, b), ab)
		want := tally(b, "", map[string]int{})
		for path, n := range tally(a, "", map[string]int{}) {
			if want[path] -= n; want[path] == 0 {
				delete(want, path)
			}
		}
		if fmt.Sprint(texts(ab)) != fmt.Sprint(want) {
			t.Errorf("Difference of %v and %v: %v, want %v", a, b, ab, want)
		}
		sum := texts(append(ab, shape.Difference(b, c)...))
		for path, n := range sum {
			if n == 0 {
				delete(sum, path)
			}
		}
		if ac := texts(shape.Difference(a, c)); fmt.Sprint(ac) != fmt.Sprint(sum) {
			t.Errorf("Differences of %v, %v and %v: %v, but %v together", a, b, c, ac, sum)
		}
		expectDeltas(t, "Difference of a shape from itself", shape.Difference(a, shuffled(r, a)))
	}
}
