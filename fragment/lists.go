package fragment

import (
	"cmp"
	"slices"
)

// All lists of this file are in order, with each element once.

// compareLists compares two lists by the first elements at which they differ. A list comes before all longer ones that begin with it.
func compareLists[T any](a, b []T, compare func(x, y T) int) int {
	for k := range min(len(a), len(b)) {
		if c := compare(a[k], b[k]); c != 0 {
			return c
		}
	}
	return cmp.Compare(len(a), len(b))
}

// difference returns a new list with the elements of a list that another one does not have.
func difference[T any](a, b []T, compare func(x, y T) int) []T {
	return slices.DeleteFunc(slices.Clone(a), func(x T) bool {
		_, isFound := slices.BinarySearchFunc(b, x, compare)
		return isFound
	})
}

// insert adds elements to a list that does not have them, and whose memory it may use.
func insert[T any](l, added []T, compare func(x, y T) int) []T {
	for _, x := range added {
		place, _ := slices.BinarySearchFunc(l, x, compare)
		l = slices.Insert(l, place, x)
	}
	return l
}
