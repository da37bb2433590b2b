package constraint

import "sleuth/api"

// Distance returns the greatest difference of two values in all solutions.
func Distance(l []api.Constraint, a, b int) (int, api.Errno) {
	m, e := measure(l, a, b)
	if e != api.OK {
		return 0, e
	}
	return m.distances.of[m.to], api.OK
}

// Chain returns the constraints that prove a distance.
func Chain(l []api.Constraint, a, b int) ([]int, api.Errno) {
	m, e := measure(l, a, b)
	if e != api.OK {
		return nil, e
	}
	return m.chain(m.distances, m.from, m.to), api.OK
}

// Extreme returns an assignment of a component that attains a distance.
func Extreme(l []api.Constraint, a, b int) ([]api.Offset, api.Errno) {
	m, e := measure(l, a, b)
	if e != api.OK {
		return nil, e
	}
	return m.offsets(m.extreme()), api.OK
}

// measured is a system with a distance that is defined. The potentials are some solution for the component.
type measured struct {
	system
	from, to              int
	potentials, distances values
}

// measure finds the distances from a node, or returns the error of that to another one.
func measure(l []api.Constraint, a, b int) (measured, api.Errno) {
	s := numbered(valid(l))
	from, hasFrom := s.number[a]
	to, hasTo := s.number[b]
	if !hasFrom || !hasTo {
		return measured{}, api.ErrNotFound
	}
	first := s.firsts()
	potentials := s.start(func(n int) bool { return first[n] == first[from] })
	if s.settle(potentials) != none {
		return measured{}, api.ErrInfeasible
	}
	distances := s.start(func(n int) bool { return n == from })
	s.settle(distances)
	if !distances.isKnown[to] {
		return measured{}, api.ErrUnreachable
	}
	return measured{s, from, to, potentials, distances}, api.OK
}

// extreme returns values that satisfy the constraints of the component: the distances where there are any, and elsewhere the potentials, raised as far as the constraints that lead from there to nodes with distances require it. None leads back, since its To would have a distance.
func (m measured) extreme() values {
	raise := 0
	for _, c := range m.edges {
		if !m.distances.isKnown[c.From] && m.distances.isKnown[c.To] {
			raise = max(raise, m.distances.of[c.To]-c.Bound-m.potentials.of[c.From])
		}
	}
	v := m.start(func(n int) bool { return m.potentials.isKnown[n] })
	for n := range m.nodes {
		if m.distances.isKnown[n] {
			v.of[n] = m.distances.of[n]
		} else {
			v.of[n] = m.potentials.of[n] + raise
		}
	}
	return v
}
