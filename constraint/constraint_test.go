package constraint_test

import (
	"fmt"
	"math"
	"math/rand"
	"slices"
	"testing"

	"sleuth/api"
	"sleuth/constraint"
)

const (
	most    = constraint.MaxConstraints
	highest = constraint.MaxBound
	clocks  = api.MaxClocks
	small   = api.MaxSmall
)

// system returns the constraints whose From, To and Bound are listed.
func system(numbers ...int) []api.Constraint {
	var l []api.Constraint
	for k := 0; k < len(numbers); k += 3 {
		l = append(l, api.Constraint{From: numbers[k], To: numbers[k+1], Bound: numbers[k+2]})
	}
	return l
}

// assignment returns the offsets whose Clock and Value are listed.
func assignment(numbers ...int) []api.Offset {
	var l []api.Offset
	for k := 0; k < len(numbers); k += 2 {
		l = append(l, api.Offset{Clock: numbers[k], Value: numbers[k+1]})
	}
	return l
}

// row returns constraints between so many nodes, one after another, with the same bound.
func row(nodes, bound int) []api.Constraint {
	var l []api.Constraint
	for n := 1; n < nodes; n++ {
		l = append(l, api.Constraint{From: n - 1, To: n, Bound: bound})
	}
	return l
}

// someSystem returns a system with few nodes. If it is gentle, it has a solution that assigns 10 times the square of a node modulo 7.
func someSystem(random *rand.Rand, isGentle bool) []api.Constraint {
	count := 1 + random.Intn(8)
	var l []api.Constraint
	for range random.Intn(2 * count) {
		c := api.Constraint{From: random.Intn(count) - 3, To: random.Intn(count) - 3, Bound: random.Intn(30) - 8}
		if isGentle {
			c.Bound = 10*(c.To*c.To%7-c.From*c.From%7) + random.Intn(5)
		}
		l = append(l, c)
	}
	return l
}

const far = math.MaxInt / 4

// lengths returns the least lengths of chains between all pairs of nodes, found by trying each node between; far if there is none. Nodes on negative cycles have negative ones to themselves.
func lengths(l []api.Constraint) map[[2]int]int {
	nodes := constraint.Nodes(l)
	d := map[[2]int]int{}
	for _, a := range nodes {
		for _, b := range nodes {
			d[[2]int{a, b}] = far
		}
		d[[2]int{a, a}] = 0
	}
	for _, c := range l {
		ends := [2]int{c.From, c.To}
		d[ends] = min(d[ends], c.Bound)
	}
	for _, m := range nodes {
		for _, a := range nodes {
			for _, b := range nodes {
				if d[[2]int{a, m}] < far && d[[2]int{m, b}] < far {
					d[[2]int{a, b}] = min(d[[2]int{a, b}], d[[2]int{a, m}]+d[[2]int{m, b}])
				}
			}
		}
	}
	return d
}

// componentOf returns the nodes that are connected with a node, found by adding what is connected until nothing is added.
func componentOf(l []api.Constraint, node int) []int {
	component := []int{node}
	for k := 0; k < len(component); k++ {
		for _, c := range l {
			for _, n := range []int{c.From, c.To} {
				isConnected := c.From == component[k] || c.To == component[k]
				if isConnected && !slices.Contains(component, n) {
					component = append(component, n)
				}
			}
		}
	}
	slices.Sort(component)
	return component
}

// hasNegative reports whether one of some nodes lies on a negative cycle.
func hasNegative(d map[[2]int]int, nodes []int) bool {
	return slices.ContainsFunc(nodes, func(n int) bool { return d[[2]int{n, n}] < 0 })
}

func expectErr(t *testing.T, what string, got, want api.Errno) {
	t.Helper()
	if got != want {
		t.Errorf("%s: %d, want %d", what, got, want)
	}
}

func expectInt(t *testing.T, what string, got int, e api.Errno, want int, wantErr api.Errno) {
	t.Helper()
	if got != want || e != wantErr {
		t.Errorf("%s: %d, %d; want %d, %d", what, got, e, want, wantErr)
	}
}

func expectInts(t *testing.T, what string, got []int, e api.Errno, want []int, wantErr api.Errno) {
	t.Helper()
	if !slices.Equal(got, want) || e != wantErr {
		t.Errorf("%s: %v, %d; want %v, %d", what, got, e, want, wantErr)
	}
}

func expectOffsets(t *testing.T, what string, got []api.Offset, e api.Errno, want []api.Offset, wantErr api.Errno) {
	t.Helper()
	if !slices.Equal(got, want) || e != wantErr {
		t.Errorf("%s: %v, %d; want %v, %d", what, got, e, want, wantErr)
	}
}

func expectFound(t *testing.T, what string, got []int, isFound bool, want []int, wantFound bool) {
	t.Helper()
	if !slices.Equal(got, want) || isFound != wantFound {
		t.Errorf("%s: %v, %v; want %v, %v", what, got, isFound, want, wantFound)
	}
}

// P9.2 to P9.6: the examples of the document.
func TestExamples(t *testing.T) {
	l := system(1, 2, 5, 2, 3, -3)
	d, e := constraint.Distance(l, 1, 3)
	expectInt(t, "Distance", d, e, 2, api.OK)
	chain, e := constraint.Chain(l, 1, 3)
	expectInts(t, "Chain", chain, e, []int{0, 1}, api.OK)
	d, e = constraint.Distance(l, 3, 1)
	expectInt(t, "Distance", d, e, 0, api.ErrUnreachable)
	v, e := constraint.Solve(l)
	expectOffsets(t, "Solve", v, e, assignment(1, 0, 2, 0, 3, -3), api.OK)

	l = append(l, system(3, 1, -3)...)
	v, e = constraint.Solve(l)
	expectOffsets(t, "Solve", v, e, nil, api.ErrInfeasible)
	cycle, isFound := constraint.Conflict(l)
	expectFound(t, "Conflict", cycle, isFound, []int{0, 1, 2}, true)
	length, e := constraint.Length(l, cycle, 1, 1)
	expectInt(t, "Length", length, e, -1, api.OK)
	needed, isFound := constraint.Minimal(l)
	expectFound(t, "Minimal", needed, isFound, []int{0, 1, 2}, true)

	cycle, isFound = constraint.Conflict(system(4, 4, -1))
	expectFound(t, "Conflict", cycle, isFound, []int{0}, true)
}

// The limits that the document names.
func TestLimits(t *testing.T) {
	if constraint.MaxConstraints != 4096 || constraint.MaxBound != 1<<42 {
		t.Error("a limit is wrong")
	}
}

// P9.1: Check.
func TestCheck(t *testing.T) {
	full := row(clocks, 1)
	for len(full) < most {
		full = append(full, full[0])
	}
	tooMany := row(clocks+1, 1)
	for _, c := range []struct {
		l []api.Constraint
		e api.Errno
	}{
		{nil, api.OK},
		{[]api.Constraint{}, api.OK},
		{system(0, 0, 0), api.OK},
		{system(small, -small, highest), api.OK},
		{system(-small, small, -highest), api.OK},
		{system(small+1, 0, 0), api.ErrRange},
		{system(0, small+1, 0), api.ErrRange},
		{system(-small-1, 0, 0), api.ErrRange},
		{system(0, -small-1, 0), api.ErrRange},
		{system(0, 0, highest+1), api.ErrRange},
		{system(0, 0, -highest-1), api.ErrRange},
		{system(1, 2, 3, math.MaxInt, 0, 0), api.ErrRange},
		{system(0, 0, math.MinInt, 1, 2, 3), api.ErrRange},
		{full, api.OK},
		{append(slices.Clone(full), full[0]), api.ErrLimit},
		{append(system(0, 0, highest+1), full...), api.ErrLimit},
		{tooMany, api.ErrLimit},
		{append(row(clocks, 0), system(clocks, clocks, 0)...), api.ErrLimit},
		{append(row(clocks, 0), system(clocks-1, 0, 0)...), api.OK},
		{append(tooMany, system(0, 0, highest+1)...), api.ErrRange},
	} {
		expectErr(t, fmt.Sprintf("Check(%.200v)", fmt.Sprint(c.l)), constraint.Check(c.l), c.e)
	}
}

// P9.1: Nodes and Components.
func TestNodes(t *testing.T) {
	for _, c := range []struct {
		l          []api.Constraint
		nodes      []int
		components [][]int
	}{
		{nil, nil, nil},
		{system(4, 4, -1), []int{4}, [][]int{{4}}},
		{system(2, 1, 0), []int{1, 2}, [][]int{{1, 2}}},
		{system(3, -5, 0, 2, 7, 0, 3, 3, 0), []int{-5, 2, 3, 7}, [][]int{{-5, 3}, {2, 7}}},
		{system(1, 9, 0, 8, 9, 0, 2, 3, 0, 8, 2, 0, 5, 5, 0), []int{1, 2, 3, 5, 8, 9}, [][]int{{1, 2, 3, 8, 9}, {5}}},
	} {
		expectInts(t, "Nodes", constraint.Nodes(c.l), 0, c.nodes, 0)
		if got := constraint.Components(c.l); !slices.EqualFunc(got, c.components, slices.Equal[[]int]) {
			t.Errorf("Components(%v): %v", c.l, got)
		}
	}
	random := rand.New(rand.NewSource(1))
	for range 500 {
		l := someSystem(random, false)
		isNode := map[int]bool{}
		var nodes []int
		var components [][]int
		for n := -5; n < 10; n++ {
			if slices.ContainsFunc(l, func(c api.Constraint) bool { return c.From == n || c.To == n }) {
				nodes = append(nodes, n)
				if component := componentOf(l, n); !isNode[component[0]] {
					isNode[n] = true
					components = append(components, component)
				}
			}
		}
		expectInts(t, fmt.Sprint("Nodes of ", l), constraint.Nodes(l), 0, nodes, 0)
		if got := constraint.Components(l); !slices.EqualFunc(got, components, slices.Equal[[]int]) {
			t.Errorf("Components(%v): %v, want %v", l, got, components)
		}
	}
}

// P9.2: Satisfies.
func TestSatisfies(t *testing.T) {
	l := system(1, 2, 5, 2, 3, -3, 3, 3, 0)
	for _, c := range []struct {
		l []api.Constraint
		v []api.Offset
		e api.Errno
	}{
		{nil, nil, api.OK},
		{nil, assignment(1, 0), api.ErrGap},
		{l, assignment(1, 0, 2, 0, 3, -3), api.OK},
		{l, assignment(1, 10, 2, 15, 3, 12), api.OK},
		{l, assignment(1, 10, 2, 16, 3, 12), api.ErrConflict},
		{l, assignment(1, 10, 2, 15, 3, 13), api.ErrConflict},
		{l, nil, api.ErrGap},
		{l, assignment(1, 0, 2, 0), api.ErrGap},
		{l, assignment(1, 10, 2, 16), api.ErrGap},
		{l, assignment(1, 0, 2, 0, 3, -3, 4, 0), api.ErrGap},
		{l, assignment(1, 0, 3, -3, 2, 0), api.ErrGap},
		{l, assignment(1, 0, 2, 0, 2, 0), api.ErrGap},
		{l, assignment(1, 0, 2, 0, 2, 0, 3, -3), api.ErrGap},
		{l, assignment(0, 0, 2, 0, 3, -3), api.ErrGap},
		{system(4, 4, -1), assignment(4, 0), api.ErrConflict},
		{system(4, 4, 0), assignment(4, 7), api.OK},
		{system(1, 2, highest), assignment(1, math.MaxInt, 2, math.MaxInt), api.OK},
		{system(1, 2, highest), assignment(1, math.MaxInt-highest, 2, math.MaxInt), api.OK},
		{system(1, 2, highest), assignment(1, math.MaxInt-highest-1, 2, math.MaxInt), api.ErrConflict},
		{system(1, 2, highest), assignment(1, math.MinInt, 2, math.MaxInt), api.ErrConflict},
		{system(1, 2, -highest), assignment(1, math.MinInt, 2, math.MinInt), api.ErrConflict},
		{system(1, 2, -highest), assignment(1, math.MinInt+highest, 2, math.MinInt), api.OK},
		{system(1, 2, -highest), assignment(1, math.MinInt+highest-1, 2, math.MinInt), api.ErrConflict},
		{system(1, 2, -highest), assignment(1, math.MaxInt, 2, math.MinInt), api.OK},
		{system(1, 2, 1), assignment(1, math.MaxInt, 2, math.MaxInt), api.OK},
		{system(1, 2, -1), assignment(1, math.MinInt, 2, math.MinInt), api.ErrConflict},
		{system(1, 2, 0), assignment(1, math.MaxInt, 2, math.MaxInt), api.OK},
		{system(1, 2, -1), assignment(1, math.MaxInt, 2, math.MaxInt), api.ErrConflict},
	} {
		expectErr(t, fmt.Sprintf("Satisfies(%v, %v)", c.l, c.v), constraint.Satisfies(c.l, c.v), c.e)
	}
}

// P9.4: Length.
func TestLength(t *testing.T) {
	l := system(1, 2, 5, 2, 3, -3, 3, 1, 4, 2, 2, 1)
	for _, c := range []struct {
		chain      []int
		a, b, want int
		e          api.Errno
	}{
		{nil, 1, 1, 0, api.OK},
		{[]int{}, 3, 3, 0, api.OK},
		{nil, 1, 2, 0, api.ErrCertificate},
		{[]int{0}, 1, 2, 5, api.OK},
		{[]int{0, 1}, 1, 3, 2, api.OK},
		{[]int{1, 2, 0, 1}, 2, 3, 3, api.OK},
		{[]int{3, 3, 3, 1}, 2, 3, 0, api.OK},
		{[]int{0, 1, 2}, 1, 1, 6, api.OK},
		{[]int{0}, 1, 3, 0, api.ErrCertificate},
		{[]int{0}, 2, 2, 0, api.ErrCertificate},
		{[]int{0}, 2, 1, 0, api.ErrCertificate},
		{[]int{0, 2}, 1, 1, 0, api.ErrCertificate},
		{[]int{1, 0}, 2, 2, 0, api.ErrCertificate},
		{[]int{4}, 1, 1, 0, api.ErrCertificate},
		{[]int{0, 4}, 1, 2, 0, api.ErrCertificate},
		{[]int{-1}, 1, 1, 0, api.ErrCertificate},
		{[]int{math.MaxInt}, 1, 1, 0, api.ErrCertificate},
		{[]int{math.MinInt}, 1, 1, 0, api.ErrCertificate},
	} {
		length, e := constraint.Length(l, c.chain, c.a, c.b)
		expectInt(t, fmt.Sprintf("Length(%v, %d, %d)", c.chain, c.a, c.b), length, e, c.want, c.e)
	}
	length, e := constraint.Length(nil, []int{0}, 0, 0)
	expectInt(t, "Length", length, e, 0, api.ErrCertificate)
}

// P1: systems that Check does not accept, and strange arguments, do no harm.
func TestGarbage(t *testing.T) {
	wide := row(100_000, -1)
	wide = append(wide, system(99_999, 0, -5)...)
	for _, l := range [][]api.Constraint{
		nil,
		system(0, 0, math.MinInt),
		system(0, 1, math.MaxInt, 1, 0, math.MinInt),
		system(math.MaxInt, math.MinInt, math.MinInt, math.MinInt, math.MaxInt, math.MinInt),
		row(clocks+1, -1),
		wide,
	} {
		constraint.Check(l)
		constraint.Nodes(l)
		constraint.Components(l)
		constraint.Solve(l)
		constraint.Conflict(l)
		constraint.Minimal(l)
		for _, n := range []int{0, 1, -1, math.MaxInt, math.MinInt} {
			constraint.Distance(l, 0, n)
			constraint.Chain(l, n, 1)
			constraint.Extreme(l, n, n)
			constraint.Length(l, []int{n, 0, n}, n, n)
			constraint.Satisfies(l, assignment(n, n, 0, n, n, math.MinInt))
			constraint.Implies(l, api.Constraint{From: n, To: n, Bound: n})
			constraint.Implies(l, api.Constraint{From: 0, To: n, Bound: 0})
		}
	}
	expectErr(t, "Satisfies", constraint.Satisfies(system(0, 1, math.MinInt), assignment(0, 0, 1, math.MinInt)), api.OK)
}
