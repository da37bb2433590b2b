package timeset

import (
	"iter"
	"math"

	"sleuth/api"
)

// Union returns the elements of two sets.
func Union(a, b []api.Interval) []api.Interval {
	return combine(a, b, func(inA, inB bool) bool { return inA || inB })
}

// Intersect returns the common elements of two sets.
func Intersect(a, b []api.Interval) []api.Interval {
	return combine(a, b, func(inA, inB bool) bool { return inA && inB })
}

// Minus returns the elements of a that do not belong to b.
func Minus(a, b []api.Interval) []api.Interval {
	return combine(a, b, func(inA, inB bool) bool { return inA && !inB })
}

// Covers reports whether each element of b is one of a.
func Covers(a, b []api.Interval) bool {
	for p := range pieces(a, b) {
		if p.inB && !p.inA {
			return false
		}
	}
	return true
}

// Overlaps reports whether two sets have a common element.
func Overlaps(a, b []api.Interval) bool {
	for p := range pieces(a, b) {
		if p.inA && p.inB {
			return true
		}
	}
	return false
}

// combine returns the set of the elements of two sets that are kept.
func combine(a, b []api.Interval, kept func(inA, inB bool) bool) []api.Interval {
	var s []api.Interval
	for p := range pieces(a, b) {
		if kept(p.inA, p.inB) {
			s = join(s, p.between)
		}
	}
	return s
}

// piece is what lies between two neighbouring bounds of two sets. All of it belongs to a set, or nothing.
type piece struct {
	between  api.Interval
	inA, inB bool
}

// pieces goes through the pieces of two sets in increasing order, apart from those that belong to neither.
func pieces(a, b []api.Interval) iter.Seq[piece] {
	return func(yield func(piece) bool) {
		passedA, passedB, from := 0, 0, 0
		for passedA < 2*len(a) || passedB < 2*len(b) {
			nextA, nextB := bound(a, passedA), bound(b, passedB)
			to := min(nextA, nextB)
			// Behind the From of an interval and before its To, the number of bounds that have been passed is odd.
			p := piece{api.Interval{From: from, To: to}, passedA%2 == 1, passedB%2 == 1}
			if (p.inA || p.inB) && !yield(p) {
				return
			}
			if nextA == to {
				passedA++
			}
			if nextB == to {
				passedB++
			}
			from = to
		}
	}
}

// bound returns the bound with an index, where each interval has two of them, or more than all bounds behind the last one.
func bound(s []api.Interval, k int) int {
	switch {
	case k >= 2*len(s):
		return math.MaxInt
	case k%2 == 0:
		return s[k/2].From
	}
	return s[k/2].To
}
