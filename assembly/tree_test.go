package assembly_test

import (
	"fmt"
	"math"
	"math/rand"
	"reflect"
	"slices"
	"testing"

	"sleuth/api"
	"sleuth/assembly"
	"sleuth/span"
)

// record returns a valid record.
func record(trace, id, parent, revision int) api.Span {
	return api.Span{Trace: trace, Id: id, Parent: parent, Revision: revision, Clock: 1, Kind: api.Server, Service: "api", Operation: "get"}
}

// family returns records of the trace 1, given by their ids and parents in turn.
func family(l ...int) []api.Span {
	var records []api.Span
	for k := 0; k < len(l); k += 2 {
		records = append(records, record(1, l[k], l[k+1], 0))
	}
	return records
}

// node returns the node of a tree.
func node(id, parent, depth int, children ...int) assembly.Node {
	return assembly.Node{Id: id, Parent: parent, Depth: depth, Children: children}
}

func expectInts(t *testing.T, what string, got []int, want ...int) {
	t.Helper()
	if !slices.Equal(got, want) {
		t.Errorf("%s: %v, want %v", what, got, want)
	}
}

func expectBool(t *testing.T, what string, got, want bool) {
	t.Helper()
	if got != want {
		t.Errorf("%s: %v", what, got)
	}
}

func expectErr(t *testing.T, what string, got, want api.Errno) {
	t.Helper()
	if got != want {
		t.Errorf("%s: %d, want %d", what, got, want)
	}
}

// plain returns a tree with nil for all lists that are empty.
func plain(t assembly.Tree) assembly.Tree {
	var nodes []assembly.Node
	for _, n := range t.Nodes {
		nodes = append(nodes, node(n.Id, n.Parent, n.Depth, slices.Concat(n.Children)...))
	}
	return assembly.Tree{
		Trace: t.Trace, Nodes: nodes,
		Roots: slices.Concat(t.Roots), Orphans: slices.Concat(t.Orphans), Cyclic: slices.Concat(t.Cyclic), Missing: slices.Concat(t.Missing),
	}
}

func expectTree(t *testing.T, what string, got, want assembly.Tree) {
	t.Helper()
	if !reflect.DeepEqual(plain(got), plain(want)) {
		t.Errorf("%s: %v, want %v", what, got, want)
	}
	if !assembly.Equal(got, want) || !assembly.Equal(want, got) {
		t.Errorf("%s: Equal(%v, %v) is false", what, got, want)
	}
}

// a model is a trace, as the parents of its spans by their ids.
type model map[int]int

// modelOf returns the model of a trace, with the parent of the greatest record of each span.
func modelOf(l []api.Span, trace int) model {
	greatest := map[int]api.Span{}
	m := model{}
	for _, s := range l {
		last, isThere := greatest[s.Id]
		if s.Trace == trace && (!isThere || span.Compare(s, last) > 0) {
			greatest[s.Id] = s
			m[s.Id] = s.Parent
		}
	}
	return m
}

// ids returns the ids that satisfy a condition, in increasing order.
func (m model) ids(isChosen func(id int) bool) []int {
	var l []int
	for id := range m {
		if isChosen(id) {
			l = append(l, id)
		}
	}
	slices.Sort(l)
	return l
}

func (m model) has(id int) bool {
	_, isThere := m[id]
	return isThere
}

func (m model) isRoot(id int) bool { return m.has(id) && m[id] == 0 }

func (m model) isOrphan(id int) bool { return m.has(id) && m[id] != 0 && !m.has(m[id]) }

func (m model) ancestors(id int) []int {
	var l []int
	if !m.has(id) {
		return nil
	}
	for parent := m[id]; m.has(parent) && !slices.Contains(l, parent); parent = m[parent] {
		l = append(l, parent)
	}
	return l
}

func (m model) isCyclic(id int) bool {
	return m.has(id) && !slices.ContainsFunc(append(m.ancestors(id), id), func(id int) bool { return m.isRoot(id) || m.isOrphan(id) })
}

func (m model) children(id int) []int { return m.ids(func(child int) bool { return m[child] == id }) }

func (m model) depth(id int) int {
	switch {
	case m.isCyclic(id):
		return -1
	case m.isRoot(id) || m.isOrphan(id):
		return 0
	}
	return m.depth(m[id]) + 1
}

func (m model) tree(trace int) assembly.Tree {
	t := assembly.Tree{Trace: trace, Roots: m.ids(m.isRoot), Orphans: m.ids(m.isOrphan), Cyclic: m.ids(m.isCyclic)}
	for _, id := range m.ids(m.has) {
		t.Nodes = append(t.Nodes, node(id, m[id], m.depth(id), m.children(id)...))
		if m.isOrphan(id) && !slices.Contains(t.Missing, m[id]) {
			t.Missing = append(t.Missing, m[id])
		}
	}
	slices.Sort(t.Missing)
	return t
}

// below returns a span and what is below it, but for the first span.
func (m model) below(id, first int) []int {
	l := []int{id}
	for _, child := range m.children(id) {
		if child != first {
			l = append(l, m.below(child, first)...)
		}
	}
	return l
}

func (m model) subtree(id int) []int {
	if !m.has(id) {
		return nil
	}
	return m.below(id, id)
}

func (m model) common(a, b int) (int, bool) {
	for _, id := range append([]int{a}, m.ancestors(a)...) {
		if m.has(id) && m.has(b) && (id == b || slices.Contains(m.ancestors(b), id)) {
			return id, true
		}
	}
	return 0, false
}

// expectModel compares all that a tree says with a model, for ids from -2 to 11.
func expectModel(t *testing.T, what string, got assembly.Tree, m model, trace int) {
	t.Helper()
	want := m.tree(trace)
	expectTree(t, what, got, want)
	expectBool(t, what+": Complete", got.Complete(), len(want.Roots) == 1 && len(want.Orphans)+len(want.Cyclic) == 0)
	for a := -2; a < 12; a++ {
		n, isThere := got.Node(a)
		wanted := node(0, 0, 0)
		if m.has(a) {
			wanted = node(a, m[a], m.depth(a), m.children(a)...)
		}
		expectBool(t, fmt.Sprintf("%s: Node(%d)", what, a), isThere, m.has(a))
		expectTree(t, fmt.Sprintf("%s: Node(%d)", what, a), assembly.Tree{Nodes: []assembly.Node{n}}, assembly.Tree{Nodes: []assembly.Node{wanted}})
		expectInts(t, fmt.Sprintf("%s: Ancestors(%d) of %v", what, a, m), got.Ancestors(a), m.ancestors(a)...)
		expectInts(t, fmt.Sprintf("%s: Subtree(%d) of %v", what, a, m), got.Subtree(a), m.subtree(a)...)
		for b := -2; b < 12; b++ {
			expectBool(t, fmt.Sprintf("%s: IsAncestor(%d, %d) of %v", what, a, b, m), got.IsAncestor(a, b), slices.Contains(m.ancestors(b), a))
			common, isFound := got.Common(a, b)
			wanted, wantFound := m.common(a, b)
			if common != wanted || isFound != wantFound {
				t.Errorf("%s: Common(%d, %d) of %v: %d, %v", what, a, b, m, common, isFound)
			}
		}
	}
}

// P13.1 to P13.3: the examples of the document.
func TestExamples(t *testing.T) {
	l := family(1, 0, 2, 1, 3, 9, 4, 5, 5, 4)
	tree := assembly.Build(l, 1)
	expectTree(t, "Build", tree, assembly.Tree{
		Trace: 1,
		Nodes: []assembly.Node{node(1, 0, 0, 2), node(2, 1, 1), node(3, 9, 0), node(4, 5, -1, 5), node(5, 4, -1, 4)},
		Roots: []int{1}, Orphans: []int{3}, Cyclic: []int{4, 5}, Missing: []int{9},
	})
	expectInts(t, "Ancestors", tree.Ancestors(4), 5, 4)
	expectInts(t, "Subtree", tree.Subtree(4), 4, 5)

	tree = assembly.Build(append(l, record(1, 9, 2, 0)), 1)
	expectTree(t, "Build", tree, assembly.Tree{
		Trace: 1,
		Nodes: []assembly.Node{node(1, 0, 0, 2), node(2, 1, 1, 9), node(3, 9, 3), node(4, 5, -1, 5), node(5, 4, -1, 4), node(9, 2, 2, 3)},
		Roots: []int{1}, Cyclic: []int{4, 5},
	})
	expectInts(t, "Ancestors", tree.Ancestors(3), 9, 2, 1)
	expectBool(t, "Complete", tree.Complete(), false)
	common, isFound := tree.Common(3, 2)
	if common != 2 || !isFound {
		t.Errorf("Common: %d, %v", common, isFound)
	}
}

// P13.1: a trace without spans.
func TestBuildNothing(t *testing.T) {
	for _, l := range [][]api.Span{nil, {}, family(1, 0, 2, 1)} {
		for _, trace := range []int{2, 0, -1, math.MaxInt, math.MinInt} {
			tree := assembly.Build(l, trace)
			expectTree(t, "Build", tree, assembly.Tree{Trace: trace})
			expectModel(t, "Build", tree, model{}, trace)
		}
	}
}

// P13.1: the winners of one trace only, in any order, each once.
func TestBuildWinners(t *testing.T) {
	early, late, greater := record(1, 2, 0, 0), record(1, 2, 1, 1), record(1, 2, 3, 1)
	l := []api.Span{record(2, 5, 0, 0), record(1, 3, 1, 0), greater, record(1, 1, 0, 0), early, late, record(1, 3, 1, 0), record(2, 1, 2, 0)}
	expectTree(t, "Build", assembly.Build(l, 1), assembly.Tree{
		Trace: 1, Roots: []int{1},
		Nodes: []assembly.Node{node(1, 0, 0, 3), node(2, 3, 2), node(3, 1, 1, 2)},
	})
	expectTree(t, "Build", assembly.Build(l, 2), assembly.Tree{
		Trace: 2, Roots: []int{5}, Orphans: []int{1}, Missing: []int{2},
		Nodes: []assembly.Node{node(1, 2, 0), node(5, 0, 0)},
	})
}

// P13.1: a missing parent of several orphans, and several missing ones that are not in the order of the orphans.
func TestMissing(t *testing.T) {
	tree := assembly.Build(family(1, 9, 2, 8, 3, 9, 4, 8, 5, 7, 6, 5), 1)
	expectInts(t, "Orphans", tree.Orphans, 1, 2, 3, 4, 5)
	expectInts(t, "Missing", tree.Missing, 7, 8, 9)
	if common, isFound := tree.Common(1, 3); common != 0 || isFound {
		t.Errorf("Common of spans with a missing parent: %d, %v", common, isFound)
	}
	expectInts(t, "Ancestors", tree.Ancestors(1))
	expectInts(t, "Subtree", tree.Subtree(9))
}

// P13.1: Complete.
func TestComplete(t *testing.T) {
	for _, c := range []struct {
		l    []api.Span
		want bool
	}{
		{nil, false},
		{family(1, 0), true},
		{family(1, 0, 2, 1, 3, 2, 4, 1), true},
		{family(2, 0, 1, 2), true},
		{family(1, 0, 2, 0), false},
		{family(1, 0, 2, 3), false},
		{family(1, 2), false},
		{family(1, 0, 2, 2), false},
		{family(1, 0, 2, 3, 3, 2), false},
		{family(2, 3, 3, 2), false},
	} {
		expectBool(t, fmt.Sprint("Complete of ", c.l), assembly.Build(c.l, 1).Complete(), c.want)
	}
}

// P13.1: Equal, for all fields.
func TestEqualTrees(t *testing.T) {
	different := []assembly.Tree{
		{},
		{Trace: 1},
		{Nodes: []assembly.Node{{}}},
		{Nodes: []assembly.Node{{Id: 1}}},
		{Nodes: []assembly.Node{{Parent: 1}}},
		{Nodes: []assembly.Node{{Depth: 1}}},
		{Nodes: []assembly.Node{{Children: []int{1}}}},
		{Nodes: []assembly.Node{{Children: []int{1, 2}}}},
		{Nodes: []assembly.Node{{}, {}}},
		{Nodes: []assembly.Node{{}, {Id: 1}}},
		{Roots: []int{1}},
		{Roots: []int{2}},
		{Roots: []int{1, 2}},
		{Orphans: []int{1}},
		{Cyclic: []int{1}},
		{Missing: []int{1}},
		{Missing: []int{1, 1}},
	}
	for i, a := range different {
		for j, b := range different {
			expectBool(t, fmt.Sprintf("Equal(%v, %v)", a, b), assembly.Equal(a, b), i == j)
		}
	}
	empty := assembly.Tree{Nodes: []assembly.Node{}, Roots: []int{}, Orphans: []int{}, Cyclic: []int{}, Missing: []int{}}
	expectBool(t, "Equal of nil and empty lists", assembly.Equal(assembly.Tree{}, empty) && assembly.Equal(empty, assembly.Tree{}), true)
	expectBool(t, "Equal of nil and empty children", assembly.Equal(assembly.Tree{Nodes: []assembly.Node{{}}}, assembly.Tree{Nodes: []assembly.Node{{Children: []int{}}}}), true)
}

// P13.2 and P13.3: cycles, and what is below them.
func TestCycles(t *testing.T) {
	tree := assembly.Build(family(1, 3, 2, 1, 3, 2, 4, 2, 5, 4, 6, 6, 7, 6, 8, 2), 1)
	expectInts(t, "Cyclic", tree.Cyclic, 1, 2, 3, 4, 5, 6, 7, 8)
	expectInts(t, "Ancestors", tree.Ancestors(1), 3, 2, 1)
	expectInts(t, "Ancestors", tree.Ancestors(5), 4, 2, 1, 3)
	expectInts(t, "Ancestors", tree.Ancestors(6), 6)
	expectInts(t, "Ancestors", tree.Ancestors(7), 6)
	expectInts(t, "Subtree", tree.Subtree(1), 1, 2, 3, 4, 5, 8)
	expectInts(t, "Subtree", tree.Subtree(3), 3, 1, 2, 4, 5, 8)
	expectInts(t, "Subtree", tree.Subtree(4), 4, 5)
	expectInts(t, "Subtree", tree.Subtree(6), 6, 7)
	expectInts(t, "Subtree", tree.Subtree(7), 7)
	expectBool(t, "IsAncestor of itself on a cycle", tree.IsAncestor(2, 2) && tree.IsAncestor(6, 6), true)
	expectBool(t, "IsAncestor of itself below a cycle", tree.IsAncestor(4, 4) || tree.IsAncestor(7, 7), false)
	for _, c := range []struct{ a, b, want int }{{1, 3, 1}, {3, 1, 3}, {5, 1, 2}, {1, 5, 1}, {8, 5, 2}, {7, 6, 6}, {5, 4, 4}, {4, 5, 4}, {5, 5, 5}} {
		if common, isFound := tree.Common(c.a, c.b); common != c.want || !isFound {
			t.Errorf("Common(%d, %d): %d, %v", c.a, c.b, common, isFound)
		}
	}
	for _, c := range [][2]int{{1, 6}, {7, 5}, {1, 9}, {9, 1}, {9, 9}, {0, 0}} {
		if common, isFound := tree.Common(c[0], c[1]); common != 0 || isFound {
			t.Errorf("Common(%d, %d): %d, %v", c[0], c[1], common, isFound)
		}
	}
}

// P13.3: the order of a subtree.
func TestSubtree(t *testing.T) {
	tree := assembly.Build(family(5, 0, 9, 5, 1, 9, 7, 5, 8, 7, 2, 7, 3, 2, 6, 9, 4, 5), 1)
	expectInts(t, "Subtree", tree.Subtree(5), 5, 4, 7, 2, 3, 8, 9, 1, 6)
	expectInts(t, "Subtree", tree.Subtree(7), 7, 2, 3, 8)
	expectInts(t, "Subtree", tree.Subtree(1), 1)
	for _, id := range []int{0, 10, -1, math.MaxInt, math.MinInt} {
		expectInts(t, "Subtree", tree.Subtree(id))
		expectInts(t, "Ancestors", tree.Ancestors(id))
		if n, isThere := tree.Node(id); isThere || !reflect.DeepEqual(n, assembly.Node{}) {
			t.Errorf("Node(%d): %v, %v", id, n, isThere)
		}
	}
}

// P13.1 to P13.3: a trace that is as deep as it is large, and one that is as broad.
func TestLargeTrees(t *testing.T) {
	const size = 5000
	var deep, broad []api.Span
	for id := size; id > 0; id-- {
		deep = append(deep, record(1, id, id-1, 0))
		broad = append(broad, record(1, id, 1-1/id, 0))
	}
	tree := assembly.Build(deep, 1)
	expectBool(t, "Complete", tree.Complete() && assembly.Build(broad, 1).Complete(), true)
	n, _ := tree.Node(size)
	expectInts(t, "depth", []int{n.Depth}, size-1)
	ancestors, subtree := tree.Ancestors(size), tree.Subtree(1)
	expectInts(t, "sizes", []int{len(ancestors), ancestors[size-2], len(subtree), subtree[size-1]}, size-1, 1, size, size)
	common, _ := tree.Common(size, size/2)
	expectInts(t, "Common", []int{common}, size/2)
	subtree = assembly.Build(broad, 1).Subtree(1)
	expectBool(t, "Subtree in order", slices.IsSorted(subtree) && len(subtree) == size, true)
}

// someRecords returns records of two traces with few ids, some of them twice.
func someRecords(random *rand.Rand) []api.Span {
	var l []api.Span
	size := 1 + random.Intn(9)
	for range random.Intn(16) {
		l = append(l, record(1+random.Intn(2), 1+random.Intn(size), random.Intn(size+2), random.Intn(3)))
	}
	return append(l, l[:random.Intn(1+len(l))]...)
}

// shuffled returns the records of a list in another order, some of them twice.
func shuffled(random *rand.Rand, l []api.Span) []api.Span {
	var mixed []api.Span
	for _, k := range random.Perm(len(l)) {
		mixed = append(mixed, l[k], l[random.Intn(len(l))])
	}
	return mixed
}

// P13.1 to P13.3: the definitions, for random traces; the order of the records does not matter.
func TestTreesOfMany(t *testing.T) {
	random := rand.New(rand.NewSource(1))
	for range 1500 {
		l := someRecords(random)
		for trace := 1; trace <= 2; trace++ {
			tree := assembly.Build(l, trace)
			expectModel(t, "Build", tree, modelOf(l, trace), trace)
			expectTree(t, "Build", assembly.Build(shuffled(random, l), trace), tree)
		}
	}
}

// P13.6: every span is in exactly one of the subtrees of the roots and the orphans, or cyclic.
func TestEachSpanOnce(t *testing.T) {
	random := rand.New(rand.NewSource(2))
	for range 1000 {
		l := someRecords(random)
		tree := assembly.Build(l, 1)
		all := slices.Clone(tree.Cyclic)
		for _, top := range slices.Concat(tree.Roots, tree.Orphans) {
			all = append(all, tree.Subtree(top)...)
		}
		slices.Sort(all)
		expectInts(t, fmt.Sprint("spans of ", l), all, modelOf(l, 1).ids(func(int) bool { return true })...)
	}
}

// P13.6: further spans leave descendants of a root what they are.
func TestDescendantsStay(t *testing.T) {
	random := rand.New(rand.NewSource(3))
	for range 1000 {
		l := someRecords(random)
		before := assembly.Build(l, 1)
		isNew := func(s api.Span) bool {
			_, isThere := before.Node(s.Id)
			return !isThere
		}
		after := assembly.Build(append(l, slices.DeleteFunc(someRecords(random), func(s api.Span) bool { return !isNew(s) })...), 1)
		for _, root := range before.Roots {
			expectBool(t, "a root", slices.Contains(after.Roots, root), true)
			for _, id := range before.Subtree(root) {
				old, _ := before.Node(id)
				n, _ := after.Node(id)
				expectInts(t, "depth", []int{n.Depth}, old.Depth)
				expectInts(t, "Ancestors", after.Ancestors(id), before.Ancestors(id)...)
				expectBool(t, "still below the root", slices.Contains(after.Subtree(root), id), true)
			}
		}
	}
}

// P1, P13.1: records that are not valid. One with the id 0 is the parent of the roots, which stay roots.
func TestStrangeRecords(t *testing.T) {
	random := rand.New(rand.NewSource(4))
	for range 2000 {
		var l []api.Span
		for range random.Intn(9) {
			l = append(l, api.Span{Trace: random.Intn(2) - 1, Id: random.Intn(7) - 2, Parent: random.Intn(8) - 2, Kind: random.Intn(9) - 1})
		}
		for trace := -1; trace <= 1; trace++ {
			expectModel(t, "Build", assembly.Build(l, trace), modelOf(l, trace), trace)
		}
	}
	tree := assembly.Build([]api.Span{{Id: math.MaxInt, Parent: math.MinInt}, {Id: math.MinInt, Parent: math.MaxInt}, {Id: 3, Parent: math.MinInt}}, 0)
	expectInts(t, "Cyclic", tree.Cyclic, math.MinInt, 3, math.MaxInt)
	expectInts(t, "Subtree", tree.Subtree(math.MaxInt), math.MaxInt, math.MinInt, 3)
}

// P1: the methods of trees that Build has not made end.
func TestStrangeTrees(t *testing.T) {
	random := rand.New(rand.NewSource(5))
	for range 500 {
		tree := assembly.Tree{Roots: []int{random.Intn(5)}}
		for range random.Intn(6) {
			tree.Nodes = append(tree.Nodes, node(random.Intn(5), random.Intn(5), random.Intn(5), random.Intn(5), random.Intn(5), random.Intn(5)))
		}
		for a := range 6 {
			tree.Node(a)
			tree.Ancestors(a)
			tree.Subtree(a)
			tree.Complete()
			for b := range 6 {
				tree.IsAncestor(a, b)
				tree.Common(a, b)
			}
		}
	}
}

// overwrite fills a list and what lies behind it.
func overwrite(l []int) {
	for k := range l[:cap(l)] {
		l[:cap(l)][k] = -7
	}
}

// Rules: arguments are not modified, and results share no memory with them nor with each other.
func TestTreesIndependent(t *testing.T) {
	l := family(1, 0, 2, 1, 3, 1, 4, 9, 5, 6, 6, 5, 7, 1, 8, 0, 10, 9)
	given := append(slices.Clone(l), l[0])
	tree := assembly.Build(given, 1)
	want := modelOf(l, 1)
	expectModel(t, "Build", tree, want, 1)
	if !reflect.DeepEqual(given, append(slices.Clone(l), l[0])) {
		t.Error("the argument was modified")
	}
	clear(given)
	expectModel(t, "Build", tree, want, 1)
	for id := range 11 {
		n, _ := tree.Node(id)
		overwrite(n.Children)
		overwrite(tree.Ancestors(id))
		overwrite(tree.Subtree(id))
	}
	expectModel(t, "after results were overwritten", tree, want, 1)
	lists := [][]int{tree.Roots, tree.Orphans, tree.Cyclic, tree.Missing}
	for _, n := range tree.Nodes {
		lists = append(lists, n.Children)
	}
	for k, l := range lists {
		others := fmt.Sprint(lists[:k], lists[k+1:])
		overwrite(l)
		expectBool(t, "two lists share memory", fmt.Sprint(lists[:k], lists[k+1:]) != others, false)
	}
}
