package bottomk

import (
	"math/bits"
	"slices"

	"sleuth/api"
)

// million is the overlap of equal sets.
const million = 1000000

// words are the higher and the lower half of a number of 128 bits.
type words [2]uint64

// product returns the product of two numbers.
func product(a, b uint64) words {
	high, low := bits.Mul64(a, b)
	return words{high, low}
}

// over returns the quotient of a number and a divisor, but at most so much.
func (w words) over(divisor, most uint64) uint64 {
	if w[0] >= divisor {
		// The quotient has more than 64 bits.
		return most
	}
	quotient, _ := bits.Div64(w[0], w[1], divisor)
	return min(quotient, most)
}

// Distinct estimates the number of keys.
func (s *Sketch) Distinct() int {
	switch {
	case s == nil:
		return 0
	case s.Exact() || len(s.keys) == 0:
		// Only a sketch that New has not made has more keys than none.
		return len(s.keys)
	}
	return estimate(len(s.keys), s.keys[len(s.keys)-1].Hash)
}

// estimate returns how many keys a set has of which the last of k keys has a hash.
func estimate(k, hash int) int {
	if hash == 0 {
		return k
	}
	quotient := product(uint64(k-1), Scale).over(uint64(hash), api.MaxId)
	return max(int(quotient), k)
}

// Least returns a number that the number of keys is not less than.
func (s *Sketch) Least() int {
	switch {
	case s == nil:
		return 0
	case s.hasMore:
		return len(s.keys) + 1
	}
	return len(s.keys)
}

// Union estimates the number of keys of two sets together.
func Union(a, b *Sketch) (int, api.Errno) {
	both, e := union(a, b)
	if e != api.OK {
		return 0, e
	}
	return both.Distinct(), api.OK
}

// Overlap estimates the share of the keys that two sets have in common, in parts per million.
func Overlap(a, b *Sketch) (int, api.Errno) {
	both, e := union(a, b)
	if e != api.OK || len(both.keys) == 0 {
		return 0, e
	}
	common := 0
	for _, k := range both.keys {
		if a.keeps(k) && b.keeps(k) {
			common++
		}
	}
	return common * million / len(both.keys), api.OK
}

// union returns the sketch of two sets together.
func union(a, b *Sketch) (*Sketch, api.Errno) {
	both := a.Clone()
	if e := both.Merge(b); e != api.OK {
		return nil, e
	}
	return both, api.OK
}

func (s *Sketch) keeps(k Key) bool {
	_, isKept := slices.BinarySearchFunc(s.keys, k, compareKeys)
	return isKept
}
