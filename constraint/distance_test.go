package constraint_test

import (
	"fmt"
	"math"
	"math/rand"
	"slices"
	"testing"

	"sleuth/api"
	"sleuth/constraint"
)

// P9.4 and P9.5: the errors, and distances in systems that one sees through.
func TestDistance(t *testing.T) {
	l := system(1, 2, 5, 2, 3, -3, 1, 3, 7, 7, 7, -1, 7, 8, 0, 3, 3, 4)
	for _, c := range []struct {
		a, b, want int
		chain      []int
		extreme    []api.Offset
		e          api.Errno
	}{
		{1, 3, 2, []int{0, 1}, assignment(1, 0, 2, 5, 3, 2), api.OK},
		{1, 2, 5, []int{0}, assignment(1, 0, 2, 5, 3, 2), api.OK},
		{1, 1, 0, nil, assignment(1, 0, 2, 5, 3, 2), api.OK},
		{3, 3, 0, nil, nil, api.OK},
		{3, 1, 0, nil, nil, api.ErrUnreachable},
		{2, 1, 0, nil, nil, api.ErrUnreachable},
		{1, 7, 0, nil, nil, api.ErrUnreachable},
		{7, 7, 0, nil, nil, api.ErrInfeasible},
		{8, 8, 0, nil, nil, api.ErrInfeasible},
		{8, 7, 0, nil, nil, api.ErrInfeasible},
		{8, 1, 0, nil, nil, api.ErrInfeasible},
		{4, 1, 0, nil, nil, api.ErrNotFound},
		{1, 4, 0, nil, nil, api.ErrNotFound},
		{7, 4, 0, nil, nil, api.ErrNotFound},
		{4, 4, 0, nil, nil, api.ErrNotFound},
		{math.MinInt, math.MaxInt, 0, nil, nil, api.ErrNotFound},
	} {
		what := fmt.Sprintf(" from %d to %d", c.a, c.b)
		d, e := constraint.Distance(l, c.a, c.b)
		expectInt(t, "Distance"+what, d, e, c.want, c.e)
		chain, e := constraint.Chain(l, c.a, c.b)
		expectInts(t, "Chain"+what, chain, e, c.chain, c.e)
		v, e := constraint.Extreme(l, c.a, c.b)
		if c.e == api.OK && c.extreme == nil {
			expectExtreme(t, l, c.a, c.b, c.want)
		} else {
			expectOffsets(t, "Extreme"+what, v, e, c.extreme, c.e)
		}
	}
	_, e := constraint.Distance(nil, 0, 0)
	expectErr(t, "Distance", e, api.ErrNotFound)
}

// value returns the value of a node, which has one.
func value(v []api.Offset, node int) int {
	return v[slices.IndexFunc(v, func(o api.Offset) bool { return o.Clock == node })].Value
}

// expectExtreme looks at all that the document says of what Extreme returns.
func expectExtreme(t *testing.T, l []api.Constraint, a, b, distance int) {
	t.Helper()
	component := componentOf(l, a)
	var part []api.Constraint
	for _, c := range l {
		if slices.Contains(component, c.From) {
			part = append(part, c)
		}
	}
	v, e := constraint.Extreme(l, a, b)
	if e != api.OK || constraint.Satisfies(part, v) != api.OK {
		t.Fatalf("Extreme(%v, %d, %d): %v, %d", l, a, b, v, e)
	}
	if value(v, a) != 0 || value(v, b) != distance {
		t.Errorf("Extreme(%v, %d, %d) does not attain %d: %v", l, a, b, distance, v)
	}
}

// expectChain looks at all that the document says of what Chain returns.
func expectChain(t *testing.T, l []api.Constraint, a, b, distance int) {
	t.Helper()
	chain, e := constraint.Chain(l, a, b)
	expectErr(t, fmt.Sprint("Chain of ", l, a, b), e, api.OK)
	length, e := constraint.Length(l, chain, a, b)
	expectInt(t, fmt.Sprint("Length of ", l, chain), length, e, distance, api.OK)
	visited := []int{a}
	for _, k := range chain {
		if slices.Contains(visited, l[k].To) {
			t.Errorf("Chain(%v, %d, %d): %v visits a node twice", l, a, b, chain)
		}
		visited = append(visited, l[k].To)
	}
	if again, _ := constraint.Chain(slices.Clone(l), a, b); !slices.Equal(again, chain) {
		t.Errorf("Chain(%v, %d, %d): %v, and then %v", l, a, b, chain, again)
	}
}

// P9.4, P9.5 and P9.7: many systems.
func TestDistanceMany(t *testing.T) {
	random := rand.New(rand.NewSource(5))
	for k := range 600 {
		l := someSystem(random, k%3 != 0)
		given := slices.Clone(l)
		lengths := lengths(l)
		for _, a := range constraint.Nodes(l) {
			component := componentOf(l, a)
			for _, b := range constraint.Nodes(l) {
				want, wantErr := lengths[[2]int{a, b}], api.OK
				switch {
				case hasNegative(lengths, component):
					want, wantErr = 0, api.ErrInfeasible
				case want >= far:
					want, wantErr = 0, api.ErrUnreachable
				}
				d, e := constraint.Distance(l, a, b)
				expectInt(t, fmt.Sprint("Distance of ", l, a, b), d, e, want, wantErr)
				if wantErr == api.OK {
					expectChain(t, l, a, b, want)
					expectExtreme(t, l, a, b, want)
					continue
				}
				chain, e := constraint.Chain(l, a, b)
				expectInts(t, fmt.Sprint("Chain of ", l, a, b), chain, e, nil, wantErr)
				v, e := constraint.Extreme(l, a, b)
				expectOffsets(t, fmt.Sprint("Extreme of ", l, a, b), v, e, nil, wantErr)
			}
		}
		if !slices.Equal(l, given) {
			t.Fatal("an argument was modified")
		}
	}
}

// P9.7: distances satisfy the triangle inequality, bound all solutions, and become no greater by a further constraint; a number that is added to all values of a component keeps a solution.
func TestConsequences(t *testing.T) {
	random := rand.New(rand.NewSource(6))
	for range 300 {
		l := someSystem(random, true)
		more := append(slices.Clone(l), someSystem(random, true)...)
		nodes := constraint.Nodes(l)
		v, _ := constraint.Solve(l)
		for _, component := range constraint.Components(l) {
			raise := random.Intn(100) - 50
			for k := range v {
				if slices.Contains(component, v[k].Clock) {
					v[k].Value += raise
				}
			}
		}
		expectErr(t, fmt.Sprint("Satisfies of ", l, v), constraint.Satisfies(l, v), api.OK)
		for _, a := range nodes {
			for _, b := range nodes {
				d, e := constraint.Distance(l, a, b)
				if e != api.OK {
					continue
				}
				if value(v, b)-value(v, a) > d {
					t.Errorf("%v: %v exceeds the distance from %d to %d", l, v, a, b)
				}
				if narrower, e := constraint.Distance(more, a, b); e != api.OK || narrower > d {
					t.Errorf("%v: the distance from %d to %d becomes %d, %d", more, a, b, narrower, e)
				}
				for _, m := range nodes {
					first, e := constraint.Distance(l, a, m)
					second, f := constraint.Distance(l, m, b)
					if e == api.OK && f == api.OK && d > first+second {
						t.Errorf("%v: the distance from %d to %d is greater than that through %d", l, a, b, m)
					}
				}
			}
		}
	}
}

// P9.5: what has no distance gets a value as well, as great as the bounds require it.
func TestExtremeOfOthers(t *testing.T) {
	for _, l := range [][]api.Constraint{
		system(1, 2, highest, 3, 2, -highest),
		system(1, 2, highest, 3, 2, -highest, 4, 3, -highest, 5, 4, 0, 5, 6, -9, 6, 5, 9),
		system(2, 1, -highest, 1, 2, highest, 3, 1, 0),
		system(1, 2, -5, 3, 2, highest),
	} {
		d, e := constraint.Distance(l, 1, 2)
		expectErr(t, "Distance", e, api.OK)
		expectExtreme(t, l, 1, 2, d)
		expectExtreme(t, l, 1, 1, 0)
	}
}
