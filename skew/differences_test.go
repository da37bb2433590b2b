package skew_test

import (
	"fmt"
	"math"
	"math/rand"
	"slices"
	"testing"

	"sleuth/api"
	"sleuth/message"
	"sleuth/skew"
)

func expectBetween(t *testing.T, e *skew.Evidence, a, b int, want skew.Bounds, wantErr api.Errno) {
	t.Helper()
	got, f := e.Between(a, b)
	if got != want || f != wantErr {
		t.Errorf("Between(%d, %d) of %v: %v, %d; want %v, %d", a, b, e.Messages(), got, f, want, wantErr)
	}
}

// P15.5 and P15.6: the first example of the document.
func TestExample(t *testing.T) {
	e := evidenceOf(t, call())
	expectBetween(t, e, 1, 2, skew.Bounds{Low: 90, High: 102, Below: true, Above: true}, api.OK)
	expectBetween(t, e, 2, 1, skew.Bounds{Low: -102, High: -90, Below: true, Above: true}, api.OK)
	expectBetween(t, e, 1, 1, skew.Bounds{Below: true, Above: true}, api.OK)
	for _, clock := range []int{1, 2} {
		v, f := e.Assignment(clock)
		expectOffsets(t, "Assignment", v, f, assignment(1, 0, 2, 90), api.OK)
	}
	chain, f := e.Chain(1, 2)
	expectErr(t, "Chain", f, api.OK)
	expectMessages(t, "Chain", chain, call()[:1])
	chain, f = e.Chain(2, 1)
	expectErr(t, "Chain", f, api.OK)
	expectMessages(t, "Chain", chain, call()[1:])
}

// P15.4 and P15.5: the errors in their order, and differences that one sees.
func TestDifferences(t *testing.T) {
	e := evidenceOf(t, bounds(1, 2, 5, 1, 2, 9, 2, 3, -3, 1, 3, 7, 4, 4, 6, 7, 7, -1, 7, 8, 0))
	above := func(high int) skew.Bounds { return skew.Bounds{High: high, Above: true} }
	below := func(low int) skew.Bounds { return skew.Bounds{Low: low, Below: true} }
	same := skew.Bounds{Below: true, Above: true}
	for _, c := range []struct {
		a, b, want int
		e          api.Errno
		between    skew.Bounds
		betweenErr api.Errno
	}{
		{1, 3, 2, api.OK, above(2), api.OK},
		{1, 2, 5, api.OK, above(5), api.OK},
		{2, 3, -3, api.OK, above(-3), api.OK},
		{2, 2, 0, api.OK, same, api.OK},
		{4, 4, 0, api.OK, same, api.OK},
		{3, 1, 0, api.ErrUnreachable, below(-2), api.OK},
		{2, 1, 0, api.ErrUnreachable, below(-5), api.OK},
		{1, 4, 0, api.ErrUnreachable, skew.Bounds{}, api.OK},
		{4, 1, 0, api.ErrUnreachable, skew.Bounds{}, api.OK},
		{1, 7, 0, api.ErrUnreachable, skew.Bounds{}, api.ErrInfeasible},
		{7, 1, 0, api.ErrInfeasible, skew.Bounds{}, api.ErrInfeasible},
		{7, 7, 0, api.ErrInfeasible, skew.Bounds{}, api.ErrInfeasible},
		{8, 8, 0, api.ErrInfeasible, skew.Bounds{}, api.ErrInfeasible},
		{8, 7, 0, api.ErrInfeasible, skew.Bounds{}, api.ErrInfeasible},
		{1, 5, 0, api.ErrNotFound, skew.Bounds{}, api.ErrNotFound},
		{5, 1, 0, api.ErrNotFound, skew.Bounds{}, api.ErrNotFound},
		{7, 5, 0, api.ErrNotFound, skew.Bounds{}, api.ErrNotFound},
		{5, 7, 0, api.ErrNotFound, skew.Bounds{}, api.ErrNotFound},
		{5, 5, 0, api.ErrNotFound, skew.Bounds{}, api.ErrNotFound},
		{math.MinInt, math.MaxInt, 0, api.ErrNotFound, skew.Bounds{}, api.ErrNotFound},
	} {
		expectDifference(t, e, c.a, c.b, c.want, c.e)
		expectBetween(t, e, c.a, c.b, c.between, c.betweenErr)
	}
}

// expectDifference looks at all that the document says of a greatest difference.
func expectDifference(t *testing.T, e *skew.Evidence, a, b, want int, wantErr api.Errno) {
	t.Helper()
	what := fmt.Sprintf("(%d, %d) of %v", a, b, e.Messages())
	greatest, f := e.Greatest(a, b)
	if greatest != want || f != wantErr {
		t.Errorf("Greatest%s: %d, %d; want %d, %d", what, greatest, f, want, wantErr)
	}
	chain, f := e.Chain(a, b)
	expectErr(t, "Chain"+what, f, wantErr)
	v, f := e.Attain(a, b)
	expectErr(t, "Attain"+what, f, wantErr)
	if wantErr != api.OK {
		if len(chain) > 0 || len(v) > 0 {
			t.Errorf("Chain%s: %v, Attain: %v", what, chain, v)
		}
		return
	}
	length, f := message.Length(chain, a, b)
	if length != want || f != api.OK {
		t.Errorf("Chain%s: %v, of the length %d, %d", what, chain, length, f)
	}
	var visited []int
	for _, m := range chain {
		if slices.Contains(visited, m.From) || !slices.Contains(e.Messages(), m) {
			t.Errorf("Chain%s: %v, with %v", what, chain, m)
		}
		visited = append(visited, m.From)
	}
	component, _ := e.Component(a)
	expectInts(t, "Attain"+what, clocksOf(v), component...)
	if !satisfies(part(e, a), v) || valueOf(v, a) != 0 || valueOf(v, b) != want {
		t.Errorf("Attain%s: %v", what, v)
	}
}

func clocksOf(v []api.Offset) []int {
	var clocks []int
	for _, o := range v {
		clocks = append(clocks, o.Clock)
	}
	return clocks
}

// valueOf returns the offset of a clock, which has one.
func valueOf(v []api.Offset, clock int) int {
	return v[slices.IndexFunc(v, func(o api.Offset) bool { return o.Clock == clock })].Value
}

// satisfies reports whether offsets of all clocks satisfy some messages.
func satisfies(l []api.Message, v []api.Offset) bool {
	return !slices.ContainsFunc(l, func(m api.Message) bool {
		return valueOf(v, m.To)-valueOf(v, m.From) > message.Bound(m)
	})
}

// P15.4 to P15.6: many sets of messages.
func TestDifferencesMany(t *testing.T) {
	random := rand.New(rand.NewSource(4))
	for range 800 {
		e := evidenceOf(t, someMessages(random))
		for a := range 8 {
			for b := range 8 {
				expectPair(t, e, a, b)
			}
		}
		for clock := range 8 {
			v, f := e.Assignment(clock)
			expectAssignment(t, e, clock, v, f)
		}
	}
}

// expectPair compares all that is said of the difference of two clocks with the chains between them.
func expectPair(t *testing.T, e *skew.Evidence, a, b int) {
	t.Helper()
	if !slices.Contains(e.Clocks(), a) || !slices.Contains(e.Clocks(), b) {
		expectDifference(t, e, a, b, 0, api.ErrNotFound)
		expectBetween(t, e, a, b, skew.Bounds{}, api.ErrNotFound)
		return
	}
	lengths := shortest(part(e, a))
	there, back := lengths[a][b], lengths[b][a]
	switch {
	case !isConsistent(part(e, a)):
		expectDifference(t, e, a, b, 0, api.ErrInfeasible)
	case there == far:
		expectDifference(t, e, a, b, 0, api.ErrUnreachable)
	default:
		expectDifference(t, e, a, b, there, api.OK)
	}
	if !isConsistent(part(e, a)) || !isConsistent(part(e, b)) {
		expectBetween(t, e, a, b, skew.Bounds{}, api.ErrInfeasible)
		return
	}
	var want skew.Bounds
	if there < far {
		want.High, want.Above = there, true
	}
	if back < far {
		want.Low, want.Below = -back, true
	}
	expectBetween(t, e, a, b, want, api.OK)
}

// expectAssignment compares what Assignment returns with the canonical assignment.
func expectAssignment(t *testing.T, e *skew.Evidence, clock int, v []api.Offset, f api.Errno) {
	t.Helper()
	component, g := e.Component(clock)
	if g == api.OK && !isConsistent(part(e, clock)) {
		g = api.ErrInfeasible
	}
	var want []api.Offset
	if g == api.OK {
		lengths := shortest(part(e, clock))
		p := func(clock int) int {
			least := 0
			for _, from := range component {
				least = min(least, lengths[from][clock])
			}
			return least
		}
		for _, c := range component {
			want = append(want, api.Offset{Clock: c, Value: p(c) - p(component[0])})
		}
	}
	expectOffsets(t, fmt.Sprintf("Assignment(%d) of %v", clock, e.Messages()), v, f, want, g)
	if g == api.OK && !satisfies(part(e, clock), v) {
		t.Errorf("Assignment(%d) of %v: %v is not consistent", clock, e.Messages(), v)
	}
}

// P15.4: equal evidence has the same chains and assignments.
func TestSameForEqual(t *testing.T) {
	random := rand.New(rand.NewSource(5))
	for range 200 {
		l := someMessages(random)
		e := evidenceOf(t, l)
		slices.Reverse(l)
		again := evidenceOf(t, append(l, l...))
		for _, a := range e.Clocks() {
			for _, b := range e.Clocks() {
				chain, f := e.Chain(a, b)
				other, g := again.Chain(a, b)
				expectErr(t, "Chain", g, f)
				expectMessages(t, "Chain", other, chain)
				v, f := e.Attain(a, b)
				w, g := again.Attain(a, b)
				expectOffsets(t, "Attain", w, g, v, f)
			}
		}
	}
}

// P15.4 and P15.5: the terms themselves. Of all assignments of three clocks, those that satisfy all messages have differences within the bounds, and attain them.
func TestTerms(t *testing.T) {
	const reach, most = 20, 6 // finite differences are at most 6, so one above that can be as great as one likes
	random := rand.New(rand.NewSource(6))
	for range 400 {
		var l []api.Message
		for range random.Intn(6) {
			l = append(l, bound(1+random.Intn(3), 1+random.Intn(3), random.Intn(7)-3))
		}
		e := evidenceOf(t, append(l, bounds(1, 1, 0, 2, 2, 0, 3, 3, 0)...))
		for a := 1; a <= 3; a++ {
			for b := 1; b <= 3; b++ {
				component, _ := e.Component(a)
				if !slices.Contains(component, b) {
					continue
				}
				greatest, isAny := searched(part(e, a), a, b, reach)
				want, wantErr := greatest, api.OK
				if !isAny {
					want, wantErr = 0, api.ErrInfeasible
				} else if greatest > most {
					want, wantErr = 0, api.ErrUnreachable
				}
				expectDifference(t, e, a, b, want, wantErr)
			}
		}
	}
}

// searched returns the greatest difference from a to b in all assignments of the clocks 1 to 3 that satisfy some messages, and in which a has the offset 0, and no magnitude is above reach.
func searched(l []api.Message, a, b, reach int) (greatest int, isAny bool) {
	others := slices.DeleteFunc([]int{1, 2, 3}, func(clock int) bool { return clock == a })
	for first := -reach; first <= reach; first++ {
		for second := -reach; second <= reach; second++ {
			v := assignment(a, 0, others[0], first, others[1], second)
			if satisfies(l, v) && (!isAny || valueOf(v, b) > greatest) {
				greatest, isAny = valueOf(v, b), true
			}
		}
	}
	return greatest, isAny
}

// P15.6: Check looks at the clocks first, and then at the messages.
func TestCheck(t *testing.T) {
	e := evidenceOf(t, bounds(1, 2, 5, 2, 1, -3, 4, 4, 0, 6, 7, 0, 7, 7, 9))
	for _, c := range []struct {
		v []api.Offset
		e api.Errno
	}{
		{assignment(1, 0, 2, 3, 4, 0, 6, 0, 7, 0), api.OK},
		{assignment(1, 0, 2, 5, 4, 99, 6, -7, 7, -7), api.OK},
		{assignment(1, 100, 2, 105, 4, -9, 6, 9, 7, -9), api.OK},
		{assignment(1, 0, 2, 6, 4, 0, 6, 0, 7, 0), api.ErrConflict},
		{assignment(1, 0, 2, 2, 4, 0, 6, 0, 7, 0), api.ErrConflict},
		{assignment(1, 0, 2, 3, 4, 0, 6, 0, 7, 1), api.ErrConflict},
		{assignment(1, math.MinInt, 2, math.MinInt+4, 4, math.MaxInt, 6, math.MaxInt, 7, math.MinInt), api.OK},
		{assignment(1, math.MaxInt-4, 2, math.MaxInt, 4, math.MinInt, 6, 0, 7, 0), api.OK},
		{assignment(1, math.MinInt, 2, math.MaxInt, 4, 0, 6, 0, 7, 0), api.ErrConflict},
		{assignment(1, math.MaxInt, 2, math.MinInt, 4, 0, 6, 0, 7, 0), api.ErrConflict},
		{assignment(1, 0, 2, 3, 4, 0, 6, math.MinInt, 7, math.MaxInt), api.ErrConflict},
		{nil, api.ErrGap},
		{assignment(1, 0, 2, 3, 4, 0, 6, 0), api.ErrGap},
		{assignment(1, 0, 2, 9, 6, 0, 7, 0), api.ErrGap},
		{assignment(1, 0, 2, 9, 4, 0, 6, 0, 7, 0, 8, 0), api.ErrGap},
		{assignment(1, 0, 2, 9, 5, 0, 6, 0, 7, 0), api.ErrGap},
		{assignment(2, 3, 1, 0, 4, 0, 6, 0, 7, 0), api.ErrGap},
		{assignment(1, 0, 1, 0, 2, 3, 4, 0, 6, 0, 7, 0), api.ErrGap},
		{assignment(1, 0, 2, 3, 4, 0, 6, 0, 7, 0, 7, 0), api.ErrGap},
	} {
		expectErr(t, fmt.Sprint("Check of ", c.v), e.Check(c.v), c.e)
	}
	contradictory := evidenceOf(t, bounds(1, 1, -1, 2, 2, 0))
	expectErr(t, "Check", contradictory.Check(assignment(1, 0, 2, 0)), api.ErrConflict)
	expectErr(t, "Check", contradictory.Check(assignment(1, 0)), api.ErrGap)
}

// P15.8: an assignment is consistent exactly if every difference lies within its bounds; adding a number to a component changes nothing.
func TestConsistentAssignments(t *testing.T) {
	random := rand.New(rand.NewSource(7))
	accepted := 0
	for range 2000 {
		e := evidenceOf(t, someMessages(random))
		var v []api.Offset
		for _, clock := range e.Clocks() {
			v = append(v, api.Offset{Clock: clock, Value: random.Intn(6)})
		}
		isWithin := true
		for _, a := range v {
			for _, b := range v {
				between, f := e.Between(a.Clock, b.Clock)
				d := b.Value - a.Value
				isWithin = isWithin && f == api.OK && (!between.Above || d <= between.High) && (!between.Below || d >= between.Low)
			}
		}
		want := api.ErrConflict
		if isWithin {
			want = api.OK
			accepted++
		}
		expectErr(t, fmt.Sprint("Check of ", v, e.Messages()), e.Check(v), want)
		for _, component := range e.Components() {
			shift := random.Intn(100)
			for k := range v {
				if slices.Contains(component, v[k].Clock) {
					v[k].Value += shift
				}
			}
		}
		expectErr(t, fmt.Sprint("Check of ", v, e.Messages()), e.Check(v), want)
	}
	if accepted < 200 {
		t.Errorf("only %d assignments are consistent", accepted)
	}
}

// P15.8: there is a consistent assignment exactly if no component is contradictory.
func TestWholeAssignments(t *testing.T) {
	random := rand.New(rand.NewSource(8))
	for range 500 {
		e := evidenceOf(t, someMessages(random))
		var v []api.Offset
		for _, component := range e.Components() {
			part, _ := e.Assignment(component[0])
			v = append(v, part...)
		}
		slices.SortFunc(v, func(a, b api.Offset) int { return a.Clock - b.Clock })
		want := api.OK
		if !isConsistent(e.Messages()) {
			want = api.ErrGap // the contradictory components have no assignments
		}
		expectErr(t, fmt.Sprint("Check of ", v, e.Messages()), e.Check(v), want)
	}
}

// P15.8: further messages never make bounds wider.
func TestNarrower(t *testing.T) {
	random := rand.New(rand.NewSource(9))
	for range 500 {
		e := evidenceOf(t, someMessages(random))
		more, _ := e.With(someMessages(random))
		for _, a := range e.Clocks() {
			for _, b := range e.Clocks() {
				was, f := e.Between(a, b)
				is, g := more.Between(a, b)
				if f != api.OK || g == api.ErrInfeasible {
					continue
				}
				if was.Above && (!is.Above || is.High > was.High) || was.Below && (!is.Below || is.Low < was.Low) {
					t.Errorf("Between(%d, %d): %v, and with more messages %v", a, b, was, is)
				}
			}
		}
	}
}

// P15.8: the offsets with which clocks have run are a consistent assignment.
func TestTruth(t *testing.T) {
	random := rand.New(rand.NewSource(10))
	for range 300 {
		var offsets []api.Offset
		for clock := 1; clock <= 5; clock++ {
			offsets = append(offsets, api.Offset{Clock: clock, Value: random.Intn(1000) - 500})
		}
		var exchanges []api.Exchange
		for range 1 + random.Intn(12) {
			from, to := offsets[random.Intn(5)], offsets[random.Intn(5)]
			x := api.Exchange{From: from.Clock, To: to.Clock, Sent: random.Intn(100) + from.Value, Least: random.Intn(5)}
			x.Received = x.Sent - from.Value + x.Least + random.Intn(20) + to.Value
			exchanges = append(exchanges, x)
		}
		e, f := skew.Of(nil, exchanges)
		expectErr(t, "Of", f, api.OK)
		isUnknown := func(o api.Offset) bool { return !slices.Contains(e.Clocks(), o.Clock) }
		expectErr(t, "Check", e.Check(slices.DeleteFunc(offsets, isUnknown)), api.OK)
	}
}
