package histogram

import (
	"math/bits"

	"sleuth/api"
)

// Limits of values and buckets.
const (
	MaxValue   = api.MaxTime
	NumBuckets = 305
)

// Lesser values than 2 * divisions have a bucket each. From there on, so many buckets divide what is between a power of two and the next one.
const (
	divisions    = 8
	divisionBits = 3
)

// Index returns the index of the bucket of a value.
func Index(value int) (int, api.Errno) {
	if value < 0 || value > MaxValue {
		return 0, api.ErrRange
	}
	if value < 2*divisions {
		return value, api.OK
	}
	lost := bits.Len(uint(value)) - 1 - divisionBits
	return divisions*lost + value>>lost, api.OK
}

// Bounds returns the least and the greatest value of a bucket.
func Bounds(index int) (low, high int, e api.Errno) {
	if !isIndex(index) {
		return 0, 0, api.ErrRange
	}
	if index < 2*divisions {
		return index, index, api.OK
	}
	lost := index/divisions - 1
	low = (divisions + index%divisions) << lost
	return low, min(low+1<<lost-1, MaxValue), api.OK
}

func isIndex(index int) bool { return index >= 0 && index < NumBuckets }
