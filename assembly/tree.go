package assembly

import (
	"cmp"
	"iter"
	"slices"

	"sleuth/api"
	"sleuth/span"
)

// cyclic is the depth of a span if neither itself nor an ancestor is a root or an orphan.
const cyclic = -1

// Node is a span in the tree of its trace.
type Node struct {
	Id, Parent, Depth int
	Children          []int
}

// Tree is the spans of a trace, with the ids of its roots, its orphans, its cyclic spans, and of missing parents.
type Tree struct {
	Trace                           int
	Nodes                           []Node
	Roots, Orphans, Cyclic, Missing []int
}

// Build returns the tree of a trace.
func Build(l []api.Span, trace int) Tree {
	t := Tree{Trace: trace}
	for _, s := range span.Of(l, trace) {
		t.Nodes = append(t.Nodes, Node{Id: s.Id, Parent: s.Parent, Depth: cyclic})
	}
	for _, n := range t.Nodes {
		t.hang(n)
	}
	slices.Sort(t.Missing)
	t.Missing = slices.Compact(t.Missing)
	t.measure(t.Roots)
	t.measure(t.Orphans)
	for _, n := range t.Nodes {
		if n.Depth == cyclic {
			t.Cyclic = append(t.Cyclic, n.Id)
		}
	}
	return t
}

// hang adds a span to the children of its parent, to the roots, or to the orphans.
func (t *Tree) hang(n Node) {
	parent, hasParent := t.find(n.Parent)
	if hasParent {
		t.Nodes[parent].Children = append(t.Nodes[parent].Children, n.Id)
	}
	if n.Parent == 0 {
		t.Roots = append(t.Roots, n.Id)
	} else if !hasParent {
		t.Orphans = append(t.Orphans, n.Id)
		t.Missing = append(t.Missing, n.Parent)
	}
}

// measure finds the depths of some roots or orphans, and of all spans below them. A record that is not valid can have the id 0; then roots have a parent, but the depth 0 nevertheless.
func (t *Tree) measure(tops []int) {
	for _, top := range tops {
		for k := range t.walk(top, down) {
			n := &t.Nodes[k]
			parent, hasParent := t.find(n.Parent)
			if n.Parent == 0 || !hasParent {
				n.Depth = 0
			} else {
				n.Depth = t.Nodes[parent].Depth + 1
			}
		}
	}
}

// find returns the place of a span among the nodes.
func (t Tree) find(id int) (int, bool) {
	return slices.BinarySearchFunc(t.Nodes, id, func(n Node, id int) int { return cmp.Compare(n.Id, id) })
}

// walk visits the places of a span and of all to which steps lead from there, depth first. It visits none twice, so it goes around a cycle once.
func (t Tree) walk(id int, steps func(n Node) []int) iter.Seq[int] {
	return func(yield func(place int) bool) {
		isVisited := map[int]bool{}
		next := []int{id}
		for len(next) > 0 {
			last := len(next) - 1
			place, isFound := t.find(next[last])
			next = next[:last]
			if !isFound || isVisited[place] {
				continue
			}
			isVisited[place] = true
			if !yield(place) {
				return
			}
			for _, step := range slices.Backward(steps(t.Nodes[place])) {
				next = append(next, step)
			}
		}
	}
}

// down and up are the steps from a span to its children, and to its parent.
func down(n Node) []int { return n.Children }
func up(n Node) []int   { return []int{n.Parent} }

// ids returns the ids of the nodes at some places.
func (t Tree) ids(places iter.Seq[int]) []int {
	var l []int
	for place := range places {
		l = append(l, t.Nodes[place].Id)
	}
	return l
}

// Node returns the node with an id.
func (t Tree) Node(id int) (Node, bool) {
	place, isFound := t.find(id)
	if !isFound {
		return Node{}, false
	}
	n := t.Nodes[place]
	n.Children = slices.Clone(n.Children)
	return n, true
}

// Ancestors returns the ancestors of a span, the nearest one first.
func (t Tree) Ancestors(id int) []int {
	place, isFound := t.find(id)
	if !isFound {
		return nil
	}
	return t.ids(t.walk(t.Nodes[place].Parent, up))
}

// IsAncestor reports whether a span is an ancestor of another one.
func (t Tree) IsAncestor(a, b int) bool { return slices.Contains(t.Ancestors(b), a) }

// Subtree returns a span and all that is below it, a parent before its children.
func (t Tree) Subtree(id int) []int { return t.ids(t.walk(id, down)) }

// Common returns the nearest span that is one of two spans or above it, and also the other one or above it.
func (t Tree) Common(a, b int) (int, bool) {
	isAbove := map[int]bool{}
	for place := range t.walk(b, up) {
		isAbove[place] = true
	}
	for place := range t.walk(a, up) {
		if isAbove[place] {
			return t.Nodes[place].Id, true
		}
	}
	return 0, false
}

// Complete reports whether a trace is complete.
func (t Tree) Complete() bool {
	return len(t.Roots) == 1 && len(t.Orphans) == 0 && len(t.Cyclic) == 0
}

// Equal reports whether two trees are equal.
func Equal(a, b Tree) bool {
	return a.Trace == b.Trace &&
		slices.EqualFunc(a.Nodes, b.Nodes, equalNodes) &&
		slices.Equal(a.Roots, b.Roots) &&
		slices.Equal(a.Orphans, b.Orphans) &&
		slices.Equal(a.Cyclic, b.Cyclic) &&
		slices.Equal(a.Missing, b.Missing)
}

func equalNodes(a, b Node) bool {
	return a.Id == b.Id && a.Parent == b.Parent && a.Depth == b.Depth && slices.Equal(a.Children, b.Children)
}
