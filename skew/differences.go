package skew

import (
	"slices"

	"sleuth/api"
	"sleuth/constraint"
)

// Bounds is what is known about a difference: it is at least Low, if Below is set, and at most High, if Above is set.
type Bounds struct {
	Low, High    int
	Below, Above bool
}

// Greatest returns the greatest difference of two offsets.
func (e *Evidence) Greatest(a, b int) (int, api.Errno) {
	_, greatest, f := e.measured(a, b)
	return greatest, f
}

// Chain returns the messages that prove the greatest difference.
func (e *Evidence) Chain(a, b int) ([]api.Message, api.Errno) {
	c, _, f := e.measured(a, b)
	if f != api.OK {
		return nil, f
	}
	chain, f := constraint.Chain(c.constraints(), a, b)
	return c.named(chain), f
}

// Attain returns an assignment in which the greatest difference occurs.
func (e *Evidence) Attain(a, b int) ([]api.Offset, api.Errno) {
	c, _, f := e.measured(a, b)
	if f != api.OK {
		return nil, f
	}
	return constraint.Extreme(c.constraints(), a, b)
}

// measured returns the component of a clock, and the greatest difference from it to another one.
func (e *Evidence) measured(a, b int) (component, int, api.Errno) {
	c, _, f := e.both(a, b)
	switch {
	case f != api.OK:
		return component{}, 0, f
	case !c.isConsistent:
		return component{}, 0, api.ErrInfeasible
	}
	greatest, hasChain := e.greatest[pair{a, b}]
	if !hasChain {
		return component{}, 0, api.ErrUnreachable
	}
	return c, greatest, api.OK
}

// both returns the components of two clocks.
func (e *Evidence) both(a, b int) (of, other component, f api.Errno) {
	of, f = e.find(a)
	if f == api.OK {
		other, f = e.find(b)
	}
	return of, other, f
}

// Between returns both bounds of the difference of two offsets.
func (e *Evidence) Between(a, b int) (Bounds, api.Errno) {
	of, other, f := e.both(a, b)
	switch {
	case f != api.OK:
		return Bounds{}, f
	case !of.isConsistent || !other.isConsistent:
		return Bounds{}, api.ErrInfeasible
	}
	greatest, isAbove := e.greatest[pair{a, b}]
	back, isBelow := e.greatest[pair{b, a}]
	return Bounds{Low: -back, High: greatest, Below: isBelow, Above: isAbove}, api.OK
}

// Assignment returns the canonical assignment of the component of a clock.
func (e *Evidence) Assignment(clock int) ([]api.Offset, api.Errno) {
	c, f := e.find(clock)
	if f != api.OK {
		return nil, f
	}
	v, f := constraint.Solve(c.constraints())
	if f != api.OK {
		return nil, f
	}
	first := v[0].Value
	for k := range v {
		v[k].Value -= first
	}
	return v, api.OK
}

// Check returns the error of an assignment of all clocks.
func (e *Evidence) Check(l []api.Offset) api.Errno {
	if e == nil {
		return api.ErrArgument
	}
	isOf := func(o api.Offset, clock int) bool { return o.Clock == clock }
	if !slices.EqualFunc(l, e.clocks, isOf) {
		return api.ErrGap
	}
	parts := make([][]api.Offset, len(e.components))
	for _, o := range l {
		k := e.index[o.Clock]
		parts[k] = append(parts[k], o)
	}
	for k, c := range e.components {
		if f := constraint.Satisfies(c.constraints(), parts[k]); f != api.OK {
			return f
		}
	}
	return api.OK
}
