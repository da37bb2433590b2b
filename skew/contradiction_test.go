package skew_test

import (
	"fmt"
	"math"
	"math/rand"
	"slices"
	"testing"

	"sleuth/api"
	"sleuth/message"
	"sleuth/skew"
)

// isConsistent reports whether some messages have a common solution: no chain of them through clocks up to 9 leads back to a clock with a negative length.
func isConsistent(l []api.Message) bool {
	lengths := shortest(l)
	for clock := range lengths {
		if lengths[clock][clock] < 0 {
			return false
		}
	}
	return true
}

// far is greater than all lengths.
const far = math.MaxInt / 4

// shortest returns the least lengths of the chains between the clocks up to 9, or far. They mean nothing if a chain leads back to a clock with a negative length, but then one of the lengths says so.
func shortest(l []api.Message) [10][10]int {
	var lengths [10][10]int
	for from := range lengths {
		for to := range lengths {
			if from != to {
				lengths[from][to] = far
			}
		}
	}
	for _, m := range l {
		lengths[m.From][m.To] = min(lengths[m.From][m.To], message.Bound(m))
	}
	for middle := range lengths {
		for from := range lengths {
			for to := range lengths {
				if lengths[from][middle] < far && lengths[middle][to] < far {
					lengths[from][to] = min(lengths[from][to], lengths[from][middle]+lengths[middle][to])
				}
			}
		}
	}
	return lengths
}

// part returns the messages of the component of a clock.
func part(e *skew.Evidence, clock int) []api.Message {
	component, _ := e.Component(clock)
	var l []api.Message
	for _, m := range e.Messages() {
		if slices.Contains(component, m.From) {
			l = append(l, m)
		}
	}
	return l
}

// expectContradiction looks at all that the document says of a contradictory component.
func expectContradiction(t *testing.T, e *skew.Evidence, clock int) {
	t.Helper()
	is, f := e.Consistent(clock)
	if is || f != api.OK {
		t.Errorf("Consistent(%d) of %v: %v, %d", clock, e.Messages(), is, f)
	}
	l := part(e, clock)
	cycle, f := e.Contradiction(clock)
	if f != api.OK || len(cycle) == 0 {
		t.Fatalf("Contradiction(%d) of %v: %v, %d", clock, e.Messages(), cycle, f)
	}
	length, f := message.Length(cycle, cycle[0].From, cycle[0].From)
	if f != api.OK || length >= 0 {
		t.Errorf("Contradiction(%d) of %v: %v, which has the length %d, %d", clock, e.Messages(), cycle, length, f)
	}
	var visited []int
	for _, m := range cycle {
		if slices.Contains(visited, m.From) || !slices.Contains(l, m) {
			t.Errorf("Contradiction(%d) of %v: %v, with %v", clock, e.Messages(), cycle, m)
		}
		visited = append(visited, m.From)
	}
	minimal, f := e.Minimal(clock)
	if f != api.OK || isConsistent(minimal) || !slices.IsSortedFunc(minimal, message.Compare) {
		t.Errorf("Minimal(%d) of %v: %v, %d", clock, e.Messages(), minimal, f)
	}
	for k, m := range minimal {
		if !slices.Contains(l, m) || !isConsistent(slices.Delete(slices.Clone(minimal), k, k+1)) {
			t.Errorf("Minimal(%d) of %v: %v, without need for %v", clock, e.Messages(), minimal, m)
		}
	}
}

// expectConsistent looks at all that the document says of a consistent component.
func expectConsistent(t *testing.T, e *skew.Evidence, clock int) {
	t.Helper()
	is, f := e.Consistent(clock)
	if !is || f != api.OK {
		t.Errorf("Consistent(%d) of %v: %v, %d", clock, e.Messages(), is, f)
	}
	cycle, f := e.Contradiction(clock)
	expectErr(t, "Contradiction", f, api.OK)
	minimal, f := e.Minimal(clock)
	expectErr(t, "Minimal", f, api.OK)
	expectMessages(t, fmt.Sprintf("Contradiction and Minimal(%d)", clock), slices.Concat(cycle, minimal), nil)
}

// P15.3: the second example of the document, with a component beside it that is consistent, and one that is contradictory, too.
func TestContradiction(t *testing.T) {
	there, back, more := call()[0], call()[1], bound(2, 1, -103)
	e := evidenceOf(t, append(bounds(3, 4, 5, 5, 5, -1, 6, 6, 0), there, back, more, bound(1, 2, 103), bound(2, 7, -9)))
	for _, clock := range []int{1, 2, 7} {
		expectContradiction(t, e, clock)
		cycle, _ := e.Contradiction(clock)
		expectMessages(t, "Contradiction", message.Set(cycle), []api.Message{there, more})
		minimal, _ := e.Minimal(clock)
		expectMessages(t, "Minimal", minimal, []api.Message{there, more})
	}
	expectContradiction(t, e, 5)
	minimal, _ := e.Minimal(5)
	expectMessages(t, "Minimal", minimal, bounds(5, 5, -1))
	for _, clock := range []int{3, 4, 6} {
		expectConsistent(t, e, clock)
	}
	for _, clock := range []int{0, 8, -1, math.MaxInt} {
		is, f := e.Consistent(clock)
		expectErr(t, "Consistent", f, api.ErrNotFound)
		cycle, f := e.Contradiction(clock)
		expectErr(t, "Contradiction", f, api.ErrNotFound)
		minimal, f := e.Minimal(clock)
		expectErr(t, "Minimal", f, api.ErrNotFound)
		if is || len(cycle) > 0 || len(minimal) > 0 {
			t.Errorf("of the clock %d: %v, %v, %v", clock, is, cycle, minimal)
		}
	}
}

// P15.3: a minimal contradiction is in the order of messages, not of clocks.
func TestMinimalOrder(t *testing.T) {
	first, second, third := call()[0], call()[0], bound(1, 2, -3)
	first.From, first.To, first.Sent, first.Received = 3, 1, 0, 1
	second.Kind, second.From, second.To, second.Sent, second.Received = api.MessageLink, 2, 3, 0, 1
	e := evidenceOf(t, []api.Message{third, first, second})
	minimal, f := e.Minimal(2)
	expectErr(t, "Minimal", f, api.OK)
	expectMessages(t, "Minimal", minimal, []api.Message{first, second, third})
	expectContradiction(t, e, 1)
}

// P15.3 and P15.8: a cycle of the length 0 is no contradiction, one that is shorter is.
func TestZeroCycle(t *testing.T) {
	expectConsistent(t, evidenceOf(t, bounds(1, 2, 5, 2, 3, -7, 3, 1, 2)), 2)
	expectContradiction(t, evidenceOf(t, bounds(1, 2, 5, 2, 3, -8, 3, 1, 2)), 2)
	expectConsistent(t, evidenceOf(t, bounds(4, 4, 0)), 4)
	expectContradiction(t, evidenceOf(t, bounds(4, 4, 3, 4, 4, -1)), 4)
}

// P15.3: many sets of messages, and the same results for equal evidence.
func TestContradictions(t *testing.T) {
	random := rand.New(rand.NewSource(2))
	contradictory := 0
	for range 2000 {
		l := someMessages(random)
		e := evidenceOf(t, l)
		slices.Reverse(l)
		again := evidenceOf(t, append(l, l...))
		for _, clock := range e.Clocks() {
			if isConsistent(part(e, clock)) {
				expectConsistent(t, e, clock)
				continue
			}
			contradictory++
			expectContradiction(t, e, clock)
			cycle, _ := e.Contradiction(clock)
			other, _ := again.Contradiction(clock)
			expectMessages(t, "Contradiction of equal evidence", other, cycle)
			minimal, _ := e.Minimal(clock)
			other, _ = again.Minimal(clock)
			expectMessages(t, "Minimal of equal evidence", other, minimal)
		}
	}
	if contradictory < 1000 {
		t.Errorf("there are %d contradictions only", contradictory)
	}
}

// P15.8: further messages never make a contradictory component consistent.
func TestContradictionStays(t *testing.T) {
	random := rand.New(rand.NewSource(3))
	for range 500 {
		e := evidenceOf(t, someMessages(random))
		more, f := e.With(someMessages(random))
		expectErr(t, "With", f, api.OK)
		for _, clock := range e.Clocks() {
			was, _ := e.Consistent(clock)
			is, _ := more.Consistent(clock)
			if is && !was {
				t.Errorf("the component of %d is consistent after further messages: %v", clock, more.Messages())
			}
		}
	}
}
