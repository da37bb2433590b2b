package heavyhitter

import (
	"cmp"
	"slices"

	"sleuth/api"
)

// Bounds returns the least and the greatest weight that a key can have.
func Bounds(s Summary, key string) (low, high int) {
	k := slices.IndexFunc(s.Counters, func(c Counter) bool { return c.Key == key })
	if k >= 0 {
		low = s.Counters[k].Count
	}
	return low, low + s.Lost
}

// Guaranteed returns the keys that surely have a weight.
func Guaranteed(s Summary, weight int) []Counter {
	return slices.DeleteFunc(Top(s), func(c Counter) bool { return c.Count < weight })
}

// Possible returns all keys that can have a weight.
func Possible(s Summary, weight int) ([]Counter, api.Errno) {
	if s.Lost >= weight {
		return nil, api.ErrUndecided
	}
	return Guaranteed(s, weight-s.Lost), api.OK
}

// Top returns the counters by decreasing counts.
func Top(s Summary) []Counter { return ranked(s.Counters) }

// ranked returns counters by decreasing counts, and by increasing keys among equal ones.
func ranked(l []Counter) []Counter {
	return slices.SortedFunc(slices.Values(l), func(a, b Counter) int {
		return cmp.Or(cmp.Compare(b.Count, a.Count), cmp.Compare(a.Key, b.Key))
	})
}
