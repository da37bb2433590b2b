package shape

import (
	"maps"
	"slices"
)

// Delta says how many nodes with a path there are more in one shape than in another one.
type Delta struct {
	Path []Name
	By   int
}

// Paths returns how often each path occurs.
func Paths(s Shape) []Delta {
	all := branch{}
	all.add(s, 1)
	return all.deltas()
}

// Difference returns how many nodes more or fewer than a shape another one has with each path.
func Difference(a, b Shape) []Delta {
	all := branch{}
	all.add(a, -1)
	all.add(b, 1)
	return all.deltas()
}

// branch is all nodes with one path. Those with a longer path are below it, by the name that follows.
type branch struct {
	nodes int
	below map[Name]*branch
}

// add counts the nodes of a shape below a branch, each as so many.
func (b *branch) add(s Shape, by int) {
	if b.below == nil {
		b.below = map[Name]*branch{}
	}
	next := b.below[s.name()]
	if next == nil {
		next = &branch{}
		b.below[s.name()] = next
	}
	next.nodes += by
	for _, child := range s.Children {
		next.add(child, by)
	}
}

// deltas returns the paths below a branch with their numbers, but for those that are 0.
func (b *branch) deltas() []Delta {
	var l []Delta
	b.walk(nil, func(path []Name, nodes int) {
		if nodes != 0 {
			l = append(l, Delta{slices.Clone(path), nodes})
		}
	})
	return l
}

// walk calls visit for all branches below one with a path, in order. A path is only there while visit looks at it: those of a deep shape are too long to keep them all.
func (b *branch) walk(path []Name, visit func(path []Name, nodes int)) {
	for _, name := range slices.SortedFunc(maps.Keys(b.below), compareNames) {
		longer := append(path, name)
		visit(longer, b.below[name].nodes)
		b.below[name].walk(longer, visit)
	}
}
