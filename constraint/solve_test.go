package constraint_test

import (
	"fmt"
	"math/rand"
	"slices"
	"testing"

	"sleuth/api"
	"sleuth/constraint"
)

// without returns a system without one of its constraints.
func without(l []api.Constraint, k int) []api.Constraint {
	return slices.Delete(slices.Clone(l), k, k+1)
}

// only returns some constraints of a system.
func only(l []api.Constraint, indices []int) []api.Constraint {
	var part []api.Constraint
	for _, k := range indices {
		part = append(part, l[k])
	}
	return part
}

// expectNegativeCycle looks at all that the document says of what Conflict returns.
func expectNegativeCycle(t *testing.T, l []api.Constraint, cycle []int) {
	t.Helper()
	if len(cycle) == 0 {
		t.Fatalf("%v: the cycle is empty", l)
	}
	node := l[cycle[0]].From
	if length, e := constraint.Length(l, cycle, node, node); e != api.OK || length >= 0 {
		t.Errorf("%v: the length of %v is %d, %d", l, cycle, length, e)
	}
	isFrom := map[int]bool{}
	for _, k := range cycle {
		if isFrom[l[k].From] {
			t.Errorf("%v: %v is not simple", l, cycle)
		}
		isFrom[l[k].From] = true
	}
	if slices.Min(cycle) != cycle[0] {
		t.Errorf("%v: %v does not begin with the least index", l, cycle)
	}
	if again, isFound := constraint.Conflict(slices.Clone(l)); !isFound || !slices.Equal(again, cycle) {
		t.Errorf("%v: %v, and then %v", l, cycle, again)
	}
}

// expectMinimal looks at all that the document says of what Minimal returns.
func expectMinimal(t *testing.T, l []api.Constraint, needed []int) {
	t.Helper()
	if !slices.IsSorted(needed) || len(slices.Compact(slices.Clone(needed))) != len(needed) {
		t.Errorf("Minimal(%v): %v", l, needed)
	}
	part := only(l, needed)
	if _, e := constraint.Solve(part); e != api.ErrInfeasible {
		t.Errorf("Minimal(%v): %v have a solution", l, needed)
	}
	for k := range part {
		if _, e := constraint.Solve(without(part, k)); e != api.OK {
			t.Errorf("Minimal(%v): %v are not all needed", l, needed)
		}
	}
}

// P9.2, P9.3, P9.6 and P9.7: there is a solution exactly if there is no negative cycle.
func TestSolveMany(t *testing.T) {
	random := rand.New(rand.NewSource(2))
	solved := 0
	for k := range 3000 {
		l := someSystem(random, k%3 == 0)
		given := slices.Clone(l)
		d := lengths(l)
		nodes := constraint.Nodes(l)
		var want []api.Offset
		for _, b := range nodes {
			least := 0
			for _, a := range nodes {
				least = min(least, d[[2]int{a, b}])
			}
			want = append(want, api.Offset{Clock: b, Value: least})
		}
		wantErr, isNegative := api.OK, hasNegative(d, nodes)
		if isNegative {
			want, wantErr = nil, api.ErrInfeasible
		}
		v, e := constraint.Solve(l)
		expectOffsets(t, fmt.Sprint("Solve of ", l), v, e, want, wantErr)
		cycle, hasCycle := constraint.Conflict(l)
		needed, hasNeeded := constraint.Minimal(l)
		if hasCycle != isNegative || hasNeeded != isNegative {
			t.Fatalf("%v: a negative cycle is found: %v, %v", l, hasCycle, hasNeeded)
		}
		if isNegative {
			expectNegativeCycle(t, l, cycle)
			expectMinimal(t, l, needed)
		} else {
			solved++
			expectFound(t, "Conflict", cycle, hasCycle, nil, false)
			expectFound(t, "Minimal", needed, hasNeeded, nil, false)
			expectErr(t, fmt.Sprint("Satisfies of ", l, v), constraint.Satisfies(l, v), api.OK)
		}
		if !slices.Equal(l, given) {
			t.Fatal("an argument was modified")
		}
	}
	if solved < 500 || solved > 2500 {
		t.Errorf("%d systems have a solution, which makes this test a weak one", solved)
	}
}

// P9.2 and P9.3: systems without constraints, and with several components.
func TestSolve(t *testing.T) {
	v, e := constraint.Solve(nil)
	expectOffsets(t, "Solve", v, e, nil, api.OK)
	cycle, isFound := constraint.Conflict(nil)
	expectFound(t, "Conflict", cycle, isFound, nil, false)
	v, e = constraint.Solve(system(5, 5, 0, 7, -2, 3, 9, 1, -4, 1, 7, -1))
	expectOffsets(t, "Solve", v, e, assignment(-2, -2, 1, -4, 5, 0, 7, -5, 9, 0), api.OK)
	cycle, isFound = constraint.Conflict(system(1, 2, -5, 3, 4, -5, 9, 8, 0, 4, 3, 4, 2, 1, 5))
	expectFound(t, "Conflict", cycle, isFound, []int{1, 3}, true)
	cycle, isFound = constraint.Conflict(system(2, 3, 0, 1, 2, 0, 3, 1, -1))
	expectFound(t, "Conflict", cycle, isFound, []int{0, 2, 1}, true)
	needed, isFound := constraint.Minimal(system(2, 3, 0, 1, 2, 0, 3, 1, -1))
	expectFound(t, "Minimal", needed, isFound, []int{0, 1, 2}, true)
	cycle, isFound = constraint.Conflict(system(1, 2, 0, 2, 1, 0))
	expectFound(t, "Conflict", cycle, isFound, nil, false)
}

// P9.2 and P9.3: as many nodes as permitted, whose constraints stand in the order that makes most passes over them necessary.
func TestLongChain(t *testing.T) {
	l := row(clocks, -highest)
	slices.Reverse(l)
	var want []api.Offset
	for n := range clocks {
		want = append(want, api.Offset{Clock: n, Value: -n * highest})
	}
	v, e := constraint.Solve(l)
	expectOffsets(t, "Solve", v, e, want, api.OK)
	v, e = constraint.Extreme(l, 0, clocks-1)
	expectOffsets(t, "Extreme", v, e, want, api.OK)
	d, e := constraint.Distance(l, 0, clocks-1)
	expectInt(t, "Distance", d, e, -(clocks-1)*highest, api.OK)
	chain, e := constraint.Chain(l, 0, clocks-1)
	backwards := slices.Sorted(slices.Values(chain))
	slices.Reverse(backwards)
	if e != api.OK || len(chain) != clocks-1 || !slices.Equal(chain, backwards) {
		t.Errorf("Chain: %v, %d", chain, e)
	}

	l = row(clocks, 1)
	slices.Reverse(l)
	for _, closing := range []int{-clocks, -clocks + 1, -clocks + 2} {
		ring := append(slices.Clone(l), system(clocks-1, 0, closing)...)
		cycle, isFound := constraint.Conflict(ring)
		if isNegative := closing == -clocks; isFound != isNegative || isFound != (len(cycle) == clocks) {
			t.Errorf("Conflict with %d: %v", closing, cycle)
		}
		if isFound {
			expectNegativeCycle(t, ring, cycle)
		}
	}
}

// P9.2 and P9.3: as many constraints as permitted, all with the least bound, so that the values become as small as they can.
func TestManyConstraints(t *testing.T) {
	random := rand.New(rand.NewSource(3))
	var l []api.Constraint
	for range most {
		l = append(l, api.Constraint{From: random.Intn(clocks), To: random.Intn(clocks), Bound: -highest})
	}
	cycle, isFound := constraint.Conflict(l)
	if !isFound {
		t.Fatal("Conflict finds nothing")
	}
	expectNegativeCycle(t, l, cycle)
	for k := range l {
		l[k].To = l[k].From + random.Intn(clocks-l[k].From)
		if l[k].From == l[k].To {
			l[k].Bound = 0
		}
	}
	v, e := constraint.Solve(l)
	if e != api.OK || constraint.Satisfies(l, v) != api.OK {
		t.Errorf("Solve: %v, %d", v, e)
	}
}

// P9.6: Implies.
func TestImplies(t *testing.T) {
	l := system(1, 2, 5, 2, 3, -3, 7, 7, 0)
	for _, c := range []struct {
		l    []api.Constraint
		c    api.Constraint
		want bool
		e    api.Errno
	}{
		{l, api.Constraint{From: 1, To: 3, Bound: 2}, true, api.OK},
		{l, api.Constraint{From: 1, To: 3, Bound: 3}, true, api.OK},
		{l, api.Constraint{From: 1, To: 3, Bound: 1}, false, api.OK},
		{l, api.Constraint{From: 3, To: 1, Bound: highest}, false, api.OK},
		{l, api.Constraint{From: 1, To: 7, Bound: highest}, false, api.OK},
		{l, api.Constraint{From: 1, To: 4, Bound: highest}, false, api.OK},
		{l, api.Constraint{From: 4, To: 1, Bound: highest}, false, api.OK},
		{l, api.Constraint{From: 4, To: 5, Bound: highest}, false, api.OK},
		{l, api.Constraint{From: 4, To: 4, Bound: 0}, true, api.OK},
		{l, api.Constraint{From: 4, To: 4, Bound: -1}, false, api.OK},
		{l, api.Constraint{From: 1, To: 1, Bound: 0}, true, api.OK},
		{l, api.Constraint{From: 1, To: 1, Bound: -1}, false, api.OK},
		{nil, api.Constraint{From: small, To: -small, Bound: highest}, false, api.OK},
		{nil, api.Constraint{From: small, To: small, Bound: -highest}, false, api.OK},
		{l, api.Constraint{From: small + 1, To: 1, Bound: 0}, false, api.ErrRange},
		{l, api.Constraint{From: 1, To: -small - 1, Bound: 0}, false, api.ErrRange},
		{l, api.Constraint{From: 1, To: 2, Bound: highest + 1}, false, api.ErrRange},
		{l, api.Constraint{From: 1, To: 2, Bound: -highest - 1}, false, api.ErrRange},
		{system(4, 4, -1), api.Constraint{From: 1, To: 2, Bound: -highest - 1}, false, api.ErrRange},
		{system(4, 4, -1), api.Constraint{From: 1, To: 1, Bound: 0}, false, api.ErrInfeasible},
		{system(1, 2, 0, 4, 4, -1), api.Constraint{From: 1, To: 2, Bound: 0}, false, api.ErrInfeasible},
	} {
		implied, e := constraint.Implies(c.l, c.c)
		if implied != c.want || e != c.e {
			t.Errorf("Implies(%v, %v): %v, %d", c.l, c.c, implied, e)
		}
	}
	random := rand.New(rand.NewSource(4))
	for k := range 2000 {
		l := someSystem(random, k%3 != 0)
		c := api.Constraint{From: random.Intn(9) - 3, To: random.Intn(9) - 3, Bound: random.Intn(60) - 30}
		// A solution that does not satisfy c satisfies its contrary.
		contrary := append(slices.Clone(l), api.Constraint{From: c.To, To: c.From, Bound: -c.Bound - 1})
		_, notImplied := constraint.Solve(contrary)
		_, wantErr := constraint.Solve(l)
		implied, e := constraint.Implies(l, c)
		if want := wantErr == api.OK && notImplied == api.ErrInfeasible; implied != want || e != wantErr {
			t.Errorf("Implies(%v, %v): %v, %d", l, c, implied, e)
		}
	}
}
