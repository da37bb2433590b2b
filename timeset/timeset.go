// Package timeset contains sets of integers, such as slots and instants, as normal lists of intervals (layer 3, see shared/doc/03-timeset.md).
package timeset

import (
	"cmp"
	"math/bits"
	"slices"

	"sleuth/api"
)

// Limits of the elements, and of the intervals of a set.
const (
	MaxBound     = 1 << 50
	MaxIntervals = 4096
)

// Check returns OK if a list is a normal list, or the first error.
func Check(s []api.Interval) api.Errno {
	if len(s) > MaxIntervals {
		return api.ErrLimit
	}
	for k, i := range s {
		switch {
		case !inRange(i):
			return api.ErrRange
		case i.From >= i.To:
			return api.ErrEmpty
		case k > 0 && i.From <= s[k-1].To:
			return api.ErrOrder
		}
	}
	return api.OK
}

// Normal returns the normal list of the union of intervals.
func Normal(l []api.Interval) ([]api.Interval, api.Errno) {
	if len(l) > MaxIntervals {
		return nil, api.ErrLimit
	}
	if !allInRange(l) {
		return nil, api.ErrRange
	}
	sorted := slices.Clone(l)
	slices.SortFunc(sorted, func(i, j api.Interval) int { return cmp.Compare(i.From, j.From) })
	var s []api.Interval
	for _, i := range sorted {
		if i.From < i.To {
			s = join(s, i)
		}
	}
	return s, api.OK
}

// Equal compares two lists.
func Equal(a, b []api.Interval) bool { return slices.Equal(a, b) }

// Contains reports whether a number is an element.
func Contains(s []api.Interval, n int) bool {
	k := countEndedBy(s, n)
	return k < len(s) && s[k].From <= n
}

// Length returns the number of elements.
func Length(s []api.Interval) int {
	length := 0
	for _, i := range s {
		length += i.To - i.From
	}
	return length
}

// Rank returns the number of elements that are less than a number.
func Rank(s []api.Interval, n int) int {
	k := countEndedBy(s, n)
	rank := Length(s[:k])
	if k < len(s) && s[k].From < n {
		rank += n - s[k].From
	}
	return rank
}

// Nth returns the element with a rank.
func Nth(s []api.Interval, k int) (int, bool) {
	if k < 0 {
		return 0, false
	}
	for _, i := range s {
		length := i.To - i.From
		if k < length {
			return i.From + k, true
		}
		k -= length
	}
	return 0, false
}

// Next returns the least element that is at least n.
func Next(s []api.Interval, n int) (int, bool) {
	k := countEndedBy(s, n)
	if k == len(s) {
		return 0, false
	}
	return max(n, s[k].From), true
}

// Previous returns the greatest element that is at most n.
func Previous(s []api.Interval, n int) (int, bool) {
	k := countWhile(s, func(i api.Interval) bool { return i.From <= n })
	if k == 0 {
		return 0, false
	}
	return min(n, s[k-1].To-1), true
}

// Hull returns the least interval around a set.
func Hull(s []api.Interval) (api.Interval, bool) {
	if len(s) == 0 {
		return api.Interval{}, false
	}
	return api.Interval{From: s[0].From, To: s[len(s)-1].To}, true
}

// Gaps returns what is missing in the hull of a set.
func Gaps(s []api.Interval) []api.Interval {
	hull, ok := Hull(s)
	if !ok {
		return nil
	}
	return Minus([]api.Interval{hull}, s)
}

// Shift moves a set.
func Shift(s []api.Interval, by int) ([]api.Interval, api.Errno) {
	if by < -2*MaxBound || by > 2*MaxBound {
		return nil, api.ErrRange
	}
	return move(s, by, by)
}

// Grow makes the intervals of a set longer.
func Grow(s []api.Interval, before, after int) ([]api.Interval, api.Errno) {
	if before < 0 || before > 2*MaxBound || after < 0 || after > 2*MaxBound {
		return nil, api.ErrRange
	}
	return move(s, -before, after)
}

// Coarsen returns the numbers of the cells that contain elements.
func Coarsen(s []api.Interval, size int) ([]api.Interval, api.Errno) {
	if size < 1 || size > MaxBound {
		return nil, api.ErrRange
	}
	var cells []api.Interval
	for _, i := range s {
		cells = join(cells, api.Interval{From: cell(i.From, size), To: cell(i.To-1, size) + 1})
	}
	return cells, api.OK
}

// move moves the bounds of the intervals, such that none of these becomes empty.
func move(s []api.Interval, from, to int) ([]api.Interval, api.Errno) {
	var moved []api.Interval
	for _, i := range s {
		moved = join(moved, api.Interval{From: i.From + from, To: i.To + to})
	}
	if !allInRange(moved) {
		return nil, api.ErrRange
	}
	return moved, api.OK
}

// join adds an interval to a normal list. It is not empty, and begins not before the last one of the list.
func join(s []api.Interval, i api.Interval) []api.Interval {
	last := len(s) - 1
	if last < 0 || s[last].To < i.From {
		return append(s, i)
	}
	s[last].To = max(s[last].To, i.To)
	return s
}

// cell returns the number of the cell to which n belongs.
func cell(n, size int) int {
	k := n / size
	if k*size > n {
		k--
	}
	return k
}

// countEndedBy returns how many intervals have only elements that are less than n.
func countEndedBy(s []api.Interval, n int) int {
	return countWhile(s, func(i api.Interval) bool { return i.To <= n })
}

// countWhile returns how many intervals of a list, from the first one on, satisfy a condition that no later one satisfies.
func countWhile(s []api.Interval, condition func(api.Interval) bool) int {
	low, high := 0, len(s)
	for range bits.Len(uint(len(s))) {
		if low == high {
			break
		}
		middle := (low + high) / 2
		if condition(s[middle]) {
			low = middle + 1
		} else {
			high = middle
		}
	}
	return low
}

func inRange(i api.Interval) bool {
	return i.From >= -MaxBound && i.From <= MaxBound && i.To >= -MaxBound && i.To <= MaxBound
}

func allInRange(s []api.Interval) bool {
	for _, i := range s {
		if !inRange(i) {
			return false
		}
	}
	return true
}
