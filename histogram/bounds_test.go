package histogram_test

import (
	"fmt"
	"math"
	"math/rand"
	"slices"
	"testing"

	"sleuth/api"
	"sleuth/histogram"
)

// indexOf returns the index of a value as the terms say.
func indexOf(value int) int {
	if value < 16 {
		return value
	}
	k := 0
	for value > 15 {
		value /= 2
		k++
	}
	return 8*k + value
}

// P21.1: indices and bounds of single values and buckets.
func TestIndexAndBounds(t *testing.T) {
	const most = histogram.MaxValue
	for _, c := range []struct{ index, low, high int }{
		{0, 0, 0}, {1, 1, 1}, {7, 7, 7}, {8, 8, 8}, {15, 15, 15},
		{16, 16, 17}, {17, 18, 19}, {23, 30, 31}, {24, 32, 35}, {31, 60, 63}, {32, 64, 71}, {36, 96, 103},
		{296, 1 << 39, 9<<36 - 1}, {303, 15 << 36, 1<<40 - 1}, {304, 1 << 40, 1 << 40},
	} {
		low, high, e := histogram.Bounds(c.index)
		expectErr(t, "Bounds", e, api.OK)
		expectInts(t, fmt.Sprint("Bounds of ", c.index), two(low, high), c.low, c.high)
		for _, value := range []int{c.low, (c.low + c.high) / 2, c.high} {
			index, e := histogram.Index(value)
			expectErr(t, "Index", e, api.OK)
			expectInts(t, fmt.Sprint("Index of ", value), []int{index}, c.index)
		}
	}
	for _, value := range []int{-1, math.MinInt, most + 1, math.MaxInt} {
		index, e := histogram.Index(value)
		expectErr(t, fmt.Sprint("Index of ", value), e, api.ErrRange)
		expectInts(t, "Index", []int{index}, 0)
	}
	for _, index := range []int{-1, -16, math.MinInt, 305, 400, math.MaxInt} {
		low, high, e := histogram.Bounds(index)
		expectErr(t, fmt.Sprint("Bounds of ", index), e, api.ErrRange)
		expectInts(t, "Bounds", two(low, high), 0, 0)
	}
	expectInts(t, "constants", []int{histogram.MaxValue, histogram.NumBuckets}, 1<<40, 305)
}

// P21.1 and P21.7: the buckets follow one another without gaps, contain the values with their indices, and are narrow.
func TestBuckets(t *testing.T) {
	next := 0
	for index := range histogram.NumBuckets {
		low, high, e := histogram.Bounds(index)
		expectErr(t, "Bounds", e, api.OK)
		expectInts(t, "low", []int{low}, next)
		if high < low || index >= 16 && (high-low+1)*8 > low || index < 16 && high > low {
			t.Errorf("the bucket %d is too wide: %d to %d", index, low, high)
		}
		for _, value := range []int{low, high} {
			got, e := histogram.Index(value)
			expectErr(t, "Index", e, api.OK)
			expectInts(t, fmt.Sprint("Index of ", value), []int{got}, index)
		}
		next = high + 1
	}
	expectInts(t, "the end of all buckets", []int{next}, histogram.MaxValue+1)
	r := rand.New(rand.NewSource(11))
	for range 5000 {
		value := min(r.Intn(1<<r.Intn(42)), histogram.MaxValue)
		index, e := histogram.Index(value)
		expectErr(t, "Index", e, api.OK)
		expectInts(t, fmt.Sprint("Index of ", value), []int{index}, indexOf(value))
	}
}

// Examples 1 and 2.
func TestExamples(t *testing.T) {
	h, e := histogram.Of(3, 17, 16, 100)
	expectHistogram(t, "Of", h, e, of(3, 1, 16, 2, 36, 1), api.OK)
	for _, c := range []struct {
		q         api.Fraction
		low, high int
	}{
		{api.Fraction{Num: 1, Den: 2}, 16, 17},
		{api.Fraction{Num: 1, Den: 1}, 96, 103},
		{api.Fraction{Num: 0, Den: 1}, 3, 3},
		{api.Fraction{Num: 1, Den: 4}, 3, 3},
		{api.Fraction{Num: 251, Den: 1000}, 16, 17},
		{api.Fraction{Num: 3, Den: 4}, 16, 17},
		{api.Fraction{Num: 751, Den: 1000}, 96, 103},
		{api.Fraction{Num: 1, Den: 1 << 20}, 3, 3},
	} {
		low, high, e := histogram.Quantile(h, c.q)
		expectErr(t, "Quantile", e, api.OK)
		expectInts(t, fmt.Sprint("Quantile for ", c.q), two(low, high), c.low, c.high)
	}
	expectInts(t, "Sum", two(histogram.Sum(h)), 131, 140)
	expectInts(t, "AtMost 16", two(histogram.AtMost(h, 16)), 1, 3)
	expectInts(t, "Total", []int{histogram.Total(h)}, 4)
}

// P21.4: totals and bounds of numbers and sums.
func TestAtMostAndSum(t *testing.T) {
	h := of(3, 1, 16, 2, 17, 10, 304, 5)
	for _, c := range []struct{ value, low, high int }{
		{math.MinInt, 0, 0}, {-1, 0, 0}, {2, 0, 0}, {3, 1, 1}, {15, 1, 1}, {16, 1, 3}, {17, 3, 3}, {18, 3, 13}, {19, 13, 13}, {20, 13, 13},
		{1<<40 - 1, 13, 13}, {1 << 40, 18, 18}, {1<<40 + 1, 18, 18}, {math.MaxInt, 18, 18},
	} {
		expectInts(t, fmt.Sprint("AtMost ", c.value), two(histogram.AtMost(h, c.value)), c.low, c.high)
	}
	expectInts(t, "Sum", two(histogram.Sum(h)), 3+32+180+5<<40, 3+34+190+5<<40)
	expectInts(t, "Total", []int{histogram.Total(h)}, 18)
	expectInts(t, "AtMost of nothing", two(histogram.AtMost(of(), 5)), 0, 0)
	expectInts(t, "Sum of nothing", two(histogram.Sum(of())), 0, 0)
	expectInts(t, "Total of nothing", []int{histogram.Total(of())}, 0)
	full := of(303, 1<<19, 304, 1<<19)
	expectInts(t, "Sum of the greatest values", two(histogram.Sum(full)), 15<<55+1<<59, (1<<40-1)<<19+1<<59)
	expectInts(t, "Total of the greatest histogram", []int{histogram.Total(full)}, 1<<20)
}

// P21.5: the errors of quantiles in their order.
func TestQuantileErrors(t *testing.T) {
	h := of(3, 1, 16, 2)
	for _, c := range []struct {
		h        histogram.Histogram
		num, den int
		e        api.Errno
	}{
		{h, 2, 4, api.ErrForm},
		{h, 0, 2, api.ErrForm},
		{h, 0, 0, api.ErrForm},
		{h, 1, 0, api.ErrForm},
		{h, 1, -2, api.ErrForm},
		{h, -1, -2, api.ErrForm},
		{h, 4, 2, api.ErrForm},
		{h, 1, 1<<20 + 1, api.ErrForm},
		{h, math.MinInt, 1, api.ErrForm},
		{h, 1, math.MinInt, api.ErrForm},
		{of(), 2, 4, api.ErrForm},
		{h, -1, 2, api.ErrRange},
		{h, -1, 1 << 20, api.ErrRange},
		{h, 3, 2, api.ErrRange},
		{h, 2, 1, api.ErrRange},
		{h, 1 << 20, 1<<20 - 1, api.ErrRange},
		{of(), 2, 1, api.ErrRange},
		{of(), -1, 1, api.ErrRange},
		{of(), 1, 1, api.ErrEmpty},
		{of(), 0, 1, api.ErrEmpty},
		{of(), 1, 2, api.ErrEmpty},
	} {
		low, high, e := histogram.Quantile(c.h, api.Fraction{Num: c.num, Den: c.den})
		expectErr(t, fmt.Sprintf("Quantile of %v for %d/%d", c.h, c.num, c.den), e, c.e)
		expectInts(t, "Quantile with an error", two(low, high), 0, 0)
	}
}

// rank returns the least int that is at least a fraction of n, but at least 1.
func rank(q api.Fraction, n int) int {
	r := 1
	for r*q.Den < q.Num*n {
		r++
	}
	return r
}

// P21.5 and P21.7: quantiles, numbers and sums of values lie within their bounds, which are those of buckets.
func TestBoundsOfModels(t *testing.T) {
	r := rand.New(rand.NewSource(12))
	fractions := []api.Fraction{{Num: 0, Den: 1}, {Num: 1, Den: 1}, {Num: 1, Den: 2}, {Num: 99, Den: 100}, {Num: 1, Den: 3}, {Num: 2, Den: 3}, {Num: 1, Den: 10}, {Num: 1<<20 - 1, Den: 1 << 20}}
	for range 1000 {
		values := someValues(r, 30)
		slices.Sort(values)
		h := modelOf(values)
		expectInts(t, "Total", []int{histogram.Total(h)}, len(values))
		for _, q := range fractions {
			low, high, e := histogram.Quantile(h, q)
			if len(values) == 0 {
				expectErr(t, "Quantile of nothing", e, api.ErrEmpty)
				continue
			}
			wantLow, wantHigh, _ := histogram.Bounds(indexOf(values[rank(q, len(values))-1]))
			expectErr(t, "Quantile", e, api.OK)
			expectInts(t, fmt.Sprintf("Quantile of %v for %v", values, q), two(low, high), wantLow, wantHigh)
		}
		var least, sum, greatest int
		for _, v := range values {
			low, high, _ := histogram.Bounds(indexOf(v))
			least, sum, greatest = least+low, sum+v, greatest+high
		}
		low, high := histogram.Sum(h)
		expectInts(t, fmt.Sprint("Sum of ", values), two(low, high), least, greatest)
		if sum < low || sum > high {
			t.Errorf("Sum of %v: %d is not from %d to %d", values, sum, low, high)
		}
		for _, v := range append(someValues(r, 5), values...) {
			expectAtMost(t, values, v)
		}
	}
}

// expectAtMost expects that the number of values that are at most v lies within bounds. Between them are those in the bucket of v only.
func expectAtMost(t *testing.T, values []int, v int) {
	t.Helper()
	least, greatest, _ := histogram.Bounds(indexOf(v))
	count := func(isCounted func(x int) bool) int {
		n := 0
		for _, x := range values {
			if isCounted(x) {
				n++
			}
		}
		return n
	}
	below := count(func(x int) bool { return x < least })
	upTo := count(func(x int) bool { return x <= greatest })
	number := count(func(x int) bool { return x <= v })
	if v == greatest {
		below = upTo
	}
	low, high := histogram.AtMost(modelOf(values), v)
	expectInts(t, fmt.Sprintf("AtMost of %v and %d", values, v), two(low, high), below, upTo)
	if number < low || number > high {
		t.Errorf("AtMost of %v: %d is not from %d to %d", values, number, low, high)
	}
}
