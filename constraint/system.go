package constraint

import (
	"slices"

	"sleuth/api"
)

// none stands for a node or a constraint that there is not.
const none = -1

// system is a list of constraints whose nodes are numbered in increasing order; From and To are such numbers.
type system struct {
	nodes  []int
	number map[int]int
	edges  []api.Constraint
}

// numbered returns the system of some constraints.
func numbered(l []api.Constraint) system {
	s := system{Nodes(l), map[int]int{}, make([]api.Constraint, len(l))}
	for n, node := range s.nodes {
		s.number[node] = n
	}
	for k, c := range l {
		s.edges[k] = api.Constraint{From: s.number[c.From], To: s.number[c.To], Bound: c.Bound}
	}
	return s
}

// firsts returns for each node the least one of its component.
func (s system) firsts() []int {
	first := make([]int, len(s.nodes))
	for n := range first {
		first[n] = n
	}
	find := func(n int) int {
		for first[n] != n {
			first[n] = first[first[n]] // so that the way is shorter the next time
			n = first[n]
		}
		return n
	}
	for _, c := range s.edges {
		a, b := find(c.From), find(c.To)
		first[max(a, b)] = min(a, b)
	}
	for n := range first {
		first[n] = find(n)
	}
	return first
}

// values are those of the nodes, as far as they are known.
type values struct {
	of      []int
	isKnown []bool
	by      []int // the constraint from which a node has its value, or none
}

// start returns values of which some are known, and 0.
func (s system) start(isKnown func(n int) bool) values {
	v := values{make([]int, len(s.nodes)), make([]bool, len(s.nodes)), make([]int, len(s.nodes))}
	for n := range s.nodes {
		v.isKnown[n], v.by[n] = isKnown(n), none
	}
	return v
}

// relaxation returns the function that makes the value of To as small as a constraint requires it, and reports whether it has changed.
func (s system) relaxation(v values) func(k int) bool {
	return func(k int) bool {
		c := s.edges[k]
		if !v.isKnown[c.From] {
			return false
		}
		most := v.of[c.From] + c.Bound
		if v.isKnown[c.To] && v.of[c.To] <= most {
			return false
		}
		v.of[c.To], v.isKnown[c.To], v.by[c.To] = most, true, k
		return true
	}
}

// settle relaxes the constraints until no value changes any more, and returns none. If one still changes in the pass that is one more than a chain without cycles needs, it returns a node of such a value: a negative cycle leads to it.
func (s system) settle(v values) (changed int) {
	relax := s.relaxation(v)
	changed = none
	for range s.nodes {
		changed = none
		for k, c := range s.edges {
			if relax(k) {
				changed = c.To
			}
		}
		if changed == none {
			break
		}
	}
	return changed
}

// chain returns the constraints that have led from a first node to the value of another one.
func (s system) chain(v values, first, n int) []int {
	var chain []int
	for n != first {
		chain = append(chain, v.by[n])
		n = s.edges[v.by[n]].From
	}
	slices.Reverse(chain)
	return chain
}

// cycle returns the negative cycle that leads to a node which settle has returned, from its least index on.
func (s system) cycle(v values, n int) []int {
	for range s.nodes {
		n = s.edges[v.by[n]].From // after so many steps, it is on the cycle
	}
	last := v.by[n]
	cycle := append(s.chain(v, n, s.edges[last].From), last)
	least := slices.Index(cycle, slices.Min(cycle))
	return slices.Concat(cycle[least:], cycle[:least])
}
