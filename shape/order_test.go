package shape_test

import (
	"fmt"
	"math/rand"
	"reflect"
	"slices"
	"strings"
	"testing"

	"sleuth/api"
	"sleuth/shape"
)

// compareModels compares two canonical shapes.
func compareModels(a, b shape.Shape) int {
	if a.Service != b.Service {
		return strings.Compare(a.Service, b.Service)
	}
	if a.Operation != b.Operation {
		return strings.Compare(a.Operation, b.Operation)
	}
	for k := range min(len(a.Children), len(b.Children)) {
		if c := compareModels(a.Children[k], b.Children[k]); c != 0 {
			return c
		}
	}
	return len(a.Children) - len(b.Children)
}

// areEqual reports whether the children of two shapes can be paired so that they are equal, whatever their order is.
func areEqual(a, b shape.Shape) bool {
	if a.Service != b.Service || a.Operation != b.Operation || len(a.Children) != len(b.Children) {
		return false
	}
	left := slices.Clone(b.Children)
	for _, child := range a.Children {
		k := slices.IndexFunc(left, func(c shape.Shape) bool { return areEqual(child, c) })
		if k < 0 {
			return false
		}
		left = slices.Delete(left, k, k+1)
	}
	return true
}

// isCanonical reports whether all children are in order.
func isCanonical(s shape.Shape) bool {
	for k, child := range s.Children {
		if !isCanonical(child) || k > 0 && compareModels(s.Children[k-1], child) > 0 {
			return false
		}
	}
	return true
}

// increasing returns canonical shapes in increasing order.
func increasing() []shape.Shape {
	return []shape.Shape{
		{},
		of("", of("")),
		of("", of(""), of("")),
		of("", of(""), of(""), of("")),
		of("", of(""), of("/b")),
		of("", of("", of(""))),
		of("", of("/a"), of("/b")),
		of("", of("/b")),
		of("/a"),
		of("/b"),
		of("B/z", of("z/z")),
		of("a/"),
		of("a/b"),
		of("a/b", of("a/b")),
		of("a/b", of("a/b"), of("a/b", of("c/d"))),
		of("a/b", of("a/b", of("a/b"))),
		of("a/b", of("a/b", of("c/d"))),
		of("a/b", of("a/b", of("c/d")), of("c/d")),
		of("a/b", of("a/c")),
		of("a/b", of("a/c"), of("b/a")),
		of("a/b", of("b/a"), of("b/a")),
		of("a/bb"),
		of("aa/"),
		of("aa/a"),
		of("b/a", of("a/a")),
		of("\xff/"),
	}
}

// P20.2: shapes are ordered by Service, Operation and their children, in whatever order these are.
func TestCompare(t *testing.T) {
	r := rand.New(rand.NewSource(11))
	for i, a := range increasing() {
		for j, b := range increasing() {
			want := 0
			if i < j {
				want = -1
			} else if i > j {
				want = 1
			}
			x, y := shuffled(r, a), shuffled(r, b)
			expectInt(t, fmt.Sprintf("Compare(%v, %v)", x, y), shape.Compare(x, y), want)
			expectBool(t, fmt.Sprintf("Equal(%v, %v)", x, y), shape.Equal(x, y), i == j)
		}
	}
	expectInt(t, "Compare of other orders", shape.Compare(of("", of("b/"), of("a/")), of("", of("a/"), of("c/"))), -1)
	expectBool(t, "Equal of nil and an empty list", shape.Equal(of("a/b"), shape.Shape{Service: "a", Operation: "b", Children: []shape.Shape{}}), true)
}

// P20.2 and P20.7: random shapes are compared like their canonical forms. Equal ones, and only these, have equal canonical forms and keys.
func TestCanonical(t *testing.T) {
	r := rand.New(rand.NewSource(12))
	equal := 0
	for range 5000 {
		a, b := someShape(r, 1+r.Intn(8)), someShape(r, 1+r.Intn(4))
		if r.Intn(2) == 0 {
			b = shuffled(r, a)
		}
		x, y := shape.Canonical(a), shape.Canonical(b)
		if !isCanonical(x) || !areEqual(x, a) {
			t.Errorf("Canonical of %v: %v", a, x)
		}
		what := fmt.Sprintf("%v and %v", a, b)
		isEqual := areEqual(a, b)
		expectBool(t, "Equal of "+what, shape.Equal(a, b), isEqual)
		expectBool(t, "equal canonical forms of "+what, reflect.DeepEqual(plain(x), plain(y)), isEqual)
		expectBool(t, "equal keys of "+what, shape.Key(a) == shape.Key(b), isEqual)
		expectInt(t, "Compare of "+what, shape.Compare(a, b), max(-1, min(1, compareModels(x, y))))
		if isEqual {
			equal++
		}
	}
	if equal < 1000 || equal > 4000 {
		t.Errorf("%d pairs were equal, so little was tested", equal)
	}
}

// P20.3: the numbers of nodes and of levels.
func TestSizeAndDepth(t *testing.T) {
	for _, c := range []struct {
		s           shape.Shape
		size, depth int
	}{
		{shape.Shape{}, 1, 1},
		{of("a/x"), 1, 1},
		{of("a/x", of("a/x")), 2, 2},
		{of("a/x", of("a/x"), of("a/x")), 3, 2},
		{of("a/x", of("b/x", of("c/x"), of("d/x", of("e/x"))), of("f/x", of("g/x"))), 7, 4},
		{of("a/x", of("f/x", of("g/x")), of("b/x", of("c/x"), of("d/x", of("e/x"))), of("h/x")), 8, 4},
		{chain(100), 100, 100},
	} {
		expectInt(t, fmt.Sprint("Size of ", c.s), shape.Size(c.s), c.size)
		expectInt(t, fmt.Sprint("Depth of ", c.s), shape.Depth(c.s), c.depth)
	}
	r := rand.New(rand.NewSource(13))
	for size := 1; size < 200; size++ {
		s := someShape(r, size)
		deepest := 0
		for _, d := range shape.Paths(s) {
			deepest = max(deepest, len(d.Path))
		}
		expectInt(t, "Size", shape.Size(s), size)
		expectInt(t, "Depth", shape.Depth(s), deepest)
	}
}

// Example 1.
func TestExampleOne(t *testing.T) {
	l := []api.Span{record(1, 0, "api/get"), record(2, 1, "db/get"), record(3, 1, "cache/get"), record(4, 1, "db/get")}
	s, e := shape.Of(l, api.Ref{Trace: 1, Id: 1})
	expectErr(t, "Of", e, api.OK)
	expectShape(t, "Of", s, of("api/get", of("cache/get"), of("db/get"), of("db/get")))
	expectInt(t, "Size", shape.Size(s), 4)
	expectInt(t, "Depth", shape.Depth(s), 2)
	expectDeltas(t, "Paths", shape.Paths(s), delta(1, "api/get"), delta(1, "api/get", "cache/get"), delta(2, "api/get", "db/get"))
	expectShape(t, "Trace", shape.Trace(l, 1), of("", s))
}

// P1: shapes of as many levels as the limits permit do not take long.
func TestDeepShapes(t *testing.T) {
	const levels = 1 << 16
	a, b := chain(levels), of("a/x", chain(levels-1), chain(levels-2))
	expectInt(t, "Size", shape.Size(b), 2*levels-2)
	expectInt(t, "Depth", shape.Depth(b), levels)
	expectInt(t, "Compare", shape.Compare(a, b), 1)
	expectBool(t, "Equal", shape.Equal(b, of("a/x", chain(levels-2), chain(levels-1))), true)
	expectInt(t, "Size of Canonical", shape.Size(shape.Canonical(b)), 2*levels-2)
	_, e := shape.Decode(shape.Key(a))
	expectErr(t, "Decode", e, api.ErrLimit)
	expectDeltas(t, "Difference", shape.Difference(b, shape.Canonical(b)))
	var l []api.Span
	for id := range levels {
		l = append(l, record(id+1, id, "a/x"))
	}
	expectInt(t, "Size of Trace", shape.Size(shape.Trace(l, 1)), levels+1)
}

// The rules that arguments are not modified, and that results are new.
func TestResultsAreIndependent(t *testing.T) {
	l := []api.Span{record(1, 0, "z/x"), record(2, 1, "c/x"), record(3, 1, "b/x"), record(4, 3, "a/x")}
	records := slices.Clone(l)
	tree := of("", of("z/x", of("b/x", of("a/x")), of("c/x")))
	s := of("", of("z/x", of("c/x"), of("b/x", of("a/x"))))
	changes := []func() shape.Shape{
		func() shape.Shape { return shape.Trace(l, 1) },
		func() shape.Shape { return shape.Canonical(s) },
		func() shape.Shape { return shape.Canonical(tree) },
		func() shape.Shape { return shape.Counts([]api.Trace{{Id: 1, Spans: l}})[0].Shape },
		func() shape.Shape { shape.Compare(s, s); shape.Key(s); shape.Difference(s, tree); return shape.Shape{} },
	}
	for _, change := range changes {
		made := change()
		spoil(&made)
		expectShape(t, "Trace", shape.Trace(l, 1), tree)
		expectShape(t, "a shape that was an argument", s, of("", of("z/x", of("c/x"), of("b/x", of("a/x")))))
	}
	if !reflect.DeepEqual(l, records) {
		t.Error("an argument was modified")
	}
}

// spoil changes all of a shape.
func spoil(s *shape.Shape) {
	s.Service, s.Operation = "other", "other"
	for k := range s.Children {
		spoil(&s.Children[k])
	}
	s.Children = append(s.Children, of("further/further"))
}

// The rule that results share no memory: paths are independent of one another.
func TestPathsAreIndependent(t *testing.T) {
	s := of("a/x", of("b/x", of("c/x", of("d/x")), of("c/y")), of("b/y"))
	want := shape.Paths(s)
	for k := range want {
		changed := shape.Paths(s)
		path := changed[k].Path
		_ = append(path, shape.Name{Service: "further"})
		for i := range path {
			path[i].Service = "other"
		}
		expectDeltas(t, "the paths before", changed[:k], want[:k]...)
		expectDeltas(t, "the paths behind", changed[k+1:], want[k+1:]...)
	}
}
