package constraint

import (
	"slices"

	"sleuth/api"
)

// Solve returns the solution whose values are the least lengths of the chains that lead to the nodes.
func Solve(l []api.Constraint) ([]api.Offset, api.Errno) {
	s, v, changed := solve(l)
	if changed != none {
		return nil, api.ErrInfeasible
	}
	return s.offsets(v), api.OK
}

// Conflict returns a simple negative cycle.
func Conflict(l []api.Constraint) ([]int, bool) {
	s, v, changed := solve(l)
	if changed == none {
		return nil, false
	}
	return s.cycle(v, changed), true
}

// Minimal returns the constraints of a minimal contradiction.
func Minimal(l []api.Constraint) ([]int, bool) {
	// Without one constraint of a simple negative cycle, there is no cycle of its others.
	cycle, isFound := Conflict(l)
	slices.Sort(cycle)
	return cycle, isFound
}

// Implies reports whether every solution satisfies a further constraint.
func Implies(l []api.Constraint, c api.Constraint) (bool, api.Errno) {
	if !inRange(c) {
		return false, api.ErrRange
	}
	if _, e := Solve(l); e != api.OK {
		return false, e
	}
	if c.From == c.To {
		return c.Bound >= 0, api.OK
	}
	distance, e := Distance(l, c.From, c.To)
	return e == api.OK && distance <= c.Bound, api.OK
}

// solve returns what settle makes of a system in which all values are 0 at first. A system without constraints takes the place of one that is not valid, which could have any number of nodes.
func solve(l []api.Constraint) (s system, v values, changed int) {
	s = numbered(valid(l))
	v = s.start(func(n int) bool { return true })
	return s, v, s.settle(v)
}

// valid returns a system that is valid as it is, and otherwise one without constraints.
func valid(l []api.Constraint) []api.Constraint {
	if Check(l) != api.OK {
		return nil
	}
	return l
}

// offsets returns the assignment of the nodes whose values are known.
func (s system) offsets(v values) []api.Offset {
	var l []api.Offset
	for n, node := range s.nodes {
		if v.isKnown[n] {
			l = append(l, api.Offset{Clock: node, Value: v.of[n]})
		}
	}
	return l
}
