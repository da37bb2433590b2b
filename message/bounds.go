package message

import (
	"cmp"
	"maps"
	"slices"

	"sleuth/api"
)

// Bound returns what the offset of To less that of From is at most.
func Bound(m api.Message) int { return m.Received - m.Sent - m.Least }

// Constraint returns what a message says about two offsets.
func Constraint(m api.Message) api.Constraint {
	return api.Constraint{From: m.From, To: m.To, Bound: Bound(m)}
}

// Constraints returns what messages say about offsets.
func Constraints(l []api.Message) []api.Constraint {
	var constraints []api.Constraint
	for _, m := range l {
		constraints = append(constraints, Constraint(m))
	}
	return constraints
}

// Clocks returns the clocks of messages.
func Clocks(l []api.Message) []int {
	isClock := map[int]bool{}
	for _, m := range l {
		isClock[m.From], isClock[m.To] = true, true
	}
	return slices.Sorted(maps.Keys(isClock))
}

// Tightest returns the messages that say most about each two clocks, and the loops that no offset satisfies.
func Tightest(l []api.Message) []api.Message {
	saysSomething := func(m api.Message) bool { return !isLoop(m) || Bound(m) < 0 }
	tightest := chosen(l, saysSomething)
	slices.SortFunc(tightest, func(a, b api.Message) int {
		return cmp.Or(compareClocks(a, b), cmp.Compare(Bound(a), Bound(b)), Compare(a, b))
	})
	// Of the messages between the same clocks, the first one remains.
	return slices.CompactFunc(tightest, func(a, b api.Message) bool { return compareClocks(a, b) == 0 })
}

// compareClocks compares the clocks of two messages.
func compareClocks(a, b api.Message) int {
	return cmp.Or(cmp.Compare(a.From, b.From), cmp.Compare(a.To, b.To))
}

// Length returns what a chain of messages says about the offsets of its ends.
func Length(chain []api.Message, from, to int) (int, api.Errno) {
	clock, length := from, 0
	for _, m := range chain {
		if m.From != clock {
			return 0, api.ErrCertificate
		}
		clock = m.To
		length += Bound(m)
	}
	if clock != to {
		return 0, api.ErrCertificate
	}
	return length, api.OK
}
