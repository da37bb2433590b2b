package estimate

import (
	"cmp"
	"slices"
)

// Total is the numbers of spans and errors, the sum of the durations, and the number of traces, scaled by weights.
type Total struct{ Spans, Errors, Duration, Traces int }

// plus returns the sums of two totals.
func (t Total) plus(o Total) Total {
	return Total{t.Spans + o.Spans, t.Errors + o.Errors, t.Duration + o.Duration, t.Traces + o.Traces}
}

// Line is the total of a group.
type Line struct {
	Group Group
	Total Total
}

// totals are the totals of groups.
type totals map[Group]Total

// add adds a line to the total of its group.
func (t totals) add(x Line) { t[x.Group] = t[x.Group].plus(x.Total) }

// lines returns the totals in the order of the groups.
func (t totals) lines() []Line {
	var l []Line
	for g, total := range t {
		l = append(l, Line{g, total})
	}
	slices.SortFunc(l, func(a, b Line) int { return compareGroups(a.Group, b.Group) })
	return l
}

// compareGroups compares two groups.
func compareGroups(a, b Group) int {
	return cmp.Or(cmp.Compare(a.Service, b.Service), cmp.Compare(a.Version, b.Version), cmp.Compare(a.Operation, b.Operation))
}

// Merge adds the totals of the groups of two lists.
func Merge(a, b []Line) []Line {
	all := totals{}
	for _, x := range slices.Concat(a, b) {
		all.add(x)
	}
	return all.lines()
}

// Find returns the total of a group.
func Find(l []Line, g Group) Total {
	for _, x := range l {
		if x.Group == g {
			return x.Total
		}
	}
	return Total{}
}

// Sum returns the sums of all totals.
func Sum(l []Line) Total {
	var all Total
	for _, x := range l {
		all = all.plus(x.Total)
	}
	return all
}

// Top returns the lines with the greatest durations.
func Top(l []Line, n int) []Line {
	ranked := slices.SortedStableFunc(slices.Values(l), func(a, b Line) int {
		return cmp.Compare(b.Total.Duration, a.Total.Duration)
	})
	return ranked[:min(max(n, 0), len(ranked))]
}

// Equal reports whether two lists of lines are equal.
func Equal(a, b []Line) bool { return slices.Equal(a, b) }
