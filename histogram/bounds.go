package histogram

import (
	"sleuth/api"
	"sleuth/fraction"
)

// Total returns the number of values.
func Total(h Histogram) int {
	total := 0
	for _, b := range h.Buckets {
		total += b.Count
	}
	return total
}

// AtMost returns bounds of the number of values that are at most a number.
func AtMost(h Histogram, value int) (low, high int) {
	for _, b := range h.Buckets {
		least, greatest, _ := Bounds(b.Index)
		if greatest <= value {
			low += b.Count
		}
		if least <= value {
			high += b.Count
		}
	}
	return low, high
}

// Quantile returns bounds of a quantile of the values.
func Quantile(h Histogram, q api.Fraction) (low, high int, e api.Errno) {
	total := Total(h)
	switch {
	case fraction.Check(q) != api.OK:
		return 0, 0, api.ErrForm
	case q.Num < 0 || q.Num > q.Den:
		return 0, 0, api.ErrRange
	case total == 0:
		return 0, 0, api.ErrEmpty
	}
	rank, e := fraction.MulCeil(total, q)
	if e != api.OK {
		return 0, 0, e
	}
	return Bounds(indexOf(h, max(rank, 1)))
}

// indexOf returns the index of the bucket of the value with a rank.
func indexOf(h Histogram, rank int) int {
	for _, b := range h.Buckets {
		rank -= b.Count
		if rank <= 0 {
			return b.Index
		}
	}
	return NumBuckets
}

// Sum returns bounds of the sum of the values.
func Sum(h Histogram) (low, high int) {
	for _, b := range h.Buckets {
		least, greatest, _ := Bounds(b.Index)
		low += least * b.Count
		high += greatest * b.Count
	}
	return low, high
}
