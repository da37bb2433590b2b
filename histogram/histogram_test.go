package histogram_test

import (
	"fmt"
	"math"
	"math/rand"
	"slices"
	"testing"

	"sleuth/api"
	"sleuth/encoding"
	"sleuth/histogram"
)

// of returns a histogram, given by indices and counts in turn.
func of(l ...int) histogram.Histogram {
	var h histogram.Histogram
	for k := 0; k < len(l); k += 2 {
		h.Buckets = append(h.Buckets, histogram.Bucket{Index: l[k], Count: l[k+1]})
	}
	return h
}

func expectHistogram(t *testing.T, what string, got histogram.Histogram, e api.Errno, want histogram.Histogram, wantErr api.Errno) {
	t.Helper()
	if !slices.Equal(got.Buckets, want.Buckets) || e != wantErr {
		t.Errorf("%s: %v, %d; want %v, %d", what, got, e, want, wantErr)
	}
}

func expectErr(t *testing.T, what string, got, want api.Errno) {
	t.Helper()
	if got != want {
		t.Errorf("%s: the error %d, want %d", what, got, want)
	}
}

func expectInts(t *testing.T, what string, got []int, want ...int) {
	t.Helper()
	if !slices.Equal(got, want) {
		t.Errorf("%s: %v, want %v", what, got, want)
	}
}

// two returns both results of a function.
func two(a, b int) []int { return []int{a, b} }

// someValues returns values of all magnitudes.
func someValues(r *rand.Rand, most int) []int {
	var l []int
	for range r.Intn(most + 1) {
		l = append(l, min(r.Intn(1<<r.Intn(42)), histogram.MaxValue))
	}
	return l
}

// modelOf returns the histogram of values, whose indices are as the terms say.
func modelOf(values []int) histogram.Histogram {
	counts := map[int]int{}
	for _, v := range values {
		counts[indexOf(v)]++
	}
	var h histogram.Histogram
	for index := range histogram.NumBuckets {
		if counts[index] > 0 {
			h.Buckets = append(h.Buckets, histogram.Bucket{Index: index, Count: counts[index]})
		}
	}
	return h
}

// P21.2: the errors of histograms in their order.
func TestCheck(t *testing.T) {
	const most = histogram.MaxTotal
	for _, c := range []struct {
		h histogram.Histogram
		e api.Errno
	}{
		{of(), api.OK},
		{histogram.Histogram{Buckets: []histogram.Bucket{}}, api.OK},
		{of(0, 1), api.OK},
		{of(304, most), api.OK},
		{of(0, 1, 1, most-1), api.OK},
		{of(0, 1, 1, 1, 5, 7, 304, 2), api.OK},
		{of(-1, 1), api.ErrRange},
		{of(305, 1), api.ErrRange},
		{of(math.MinInt, 1), api.ErrRange},
		{of(math.MaxInt, 1), api.ErrRange},
		{of(3, 1, 3, 1), api.ErrOrder},
		{of(3, 1, 2, 1), api.ErrOrder},
		{of(3, 1, 4, 1, 4, 1), api.ErrOrder},
		{of(3, 1, 4, 1, 3, 1), api.ErrOrder},
		{of(3, 1, -1, 1), api.ErrRange},
		{of(3, 0), api.ErrRange},
		{of(3, -1), api.ErrRange},
		{of(3, most+1), api.ErrRange},
		{of(3, math.MinInt), api.ErrRange},
		{of(3, math.MaxInt), api.ErrRange},
		{of(3, 1, 3, 0), api.ErrOrder},
		{of(3, 0, 3, 1), api.ErrRange},
		{of(3, 1, 2, 1, 305, 1), api.ErrOrder},
		{of(3, 1, 305, 1, 2, 1), api.ErrRange},
		{of(3, 1, 4, most), api.ErrOverflow},
		{of(3, most, 4, 1), api.ErrOverflow},
		{of(3, most, 4, 1, 4, 1), api.ErrOrder},
		{of(3, most, 4, 1, 5, 0), api.ErrRange},
		{of(3, most/2, 4, most/2, 5, 1), api.ErrOverflow},
	} {
		expectErr(t, fmt.Sprint("Check of ", c.h), histogram.Check(c.h), c.e)
	}
}

// P21.2: the histogram of values, and its errors.
func TestOf(t *testing.T) {
	for _, c := range []struct {
		values []int
		want   histogram.Histogram
		e      api.Errno
	}{
		{nil, of(), api.OK},
		{[]int{3, 17, 16, 100}, of(3, 1, 16, 2, 36, 1), api.OK},
		{[]int{0, histogram.MaxValue, 0}, of(0, 2, 304, 1), api.OK},
		{[]int{1, histogram.MaxValue + 1}, of(), api.ErrRange},
		{[]int{-1, 1}, of(), api.ErrRange},
		{[]int{1, math.MinInt, 1}, of(), api.ErrRange},
	} {
		h, e := histogram.Of(c.values...)
		expectHistogram(t, fmt.Sprint("Of ", c.values), h, e, c.want, c.e)
	}
	values := make([]int, histogram.MaxTotal+1)
	h, e := histogram.Of(values[1:]...)
	expectHistogram(t, "Of MaxTotal values", h, e, of(0, histogram.MaxTotal), api.OK)
	h, e = histogram.Of(values...)
	expectHistogram(t, "Of too many values", h, e, of(), api.ErrOverflow)
	values[0] = -1
	_, e = histogram.Of(values...)
	expectErr(t, "Of too many values, one of which is wrong", e, api.ErrOverflow)
	expectInts(t, "MaxTotal", []int{histogram.MaxTotal}, 1<<20)
}

// P21.2: the counts are the numbers of values with the indices.
func TestOfModels(t *testing.T) {
	r := rand.New(rand.NewSource(1))
	for range 1000 {
		values := someValues(r, 40)
		h, e := histogram.Of(values...)
		expectHistogram(t, fmt.Sprint("Of ", values), h, e, modelOf(values), api.OK)
		expectErr(t, "Check", histogram.Check(h), api.OK)
	}
}

// P21.3: a further value, and the errors in their order.
func TestAdd(t *testing.T) {
	const most = histogram.MaxTotal
	h := of(3, 1, 16, 2)
	for _, c := range []struct {
		h            histogram.Histogram
		value, count int
		want         histogram.Histogram
		e            api.Errno
	}{
		{of(), 5, 1, of(5, 1), api.OK},
		{of(), 5, 0, of(), api.OK},
		{of(), 5, most, of(5, most), api.OK},
		{h, 3, 4, of(3, 5, 16, 2), api.OK},
		{h, 17, 1, of(3, 1, 16, 3), api.OK},
		{h, 0, 1, of(0, 1, 3, 1, 16, 2), api.OK},
		{h, 15, 7, of(3, 1, 15, 7, 16, 2), api.OK},
		{h, histogram.MaxValue, 1, of(3, 1, 16, 2, 304, 1), api.OK},
		{h, 4, 0, h, api.OK},
		{h, 4, most - 3, of(3, 1, 4, most-3, 16, 2), api.OK},
		{h, 3, most - 2, of(), api.ErrOverflow},
		{h, 4, most, of(), api.ErrOverflow},
		{of(3, most), 3, 0, of(3, most), api.OK},
		{of(3, most), 3, 1, of(), api.ErrOverflow},
		{h, -1, 1, of(), api.ErrRange},
		{h, histogram.MaxValue + 1, 1, of(), api.ErrRange},
		{h, math.MinInt, most, of(), api.ErrRange},
		{h, 4, -1, of(), api.ErrRange},
		{h, 3, -1, of(), api.ErrRange},
		{h, 4, most + 1, of(), api.ErrRange},
		{of(3, most), 4, most + 1, of(), api.ErrRange},
		{h, 4, math.MinInt, of(), api.ErrRange},
		{h, 4, math.MaxInt, of(), api.ErrRange},
	} {
		got, e := histogram.Add(c.h, c.value, c.count)
		expectHistogram(t, fmt.Sprintf("Add(%v, %d, %d)", c.h, c.value, c.count), got, e, c.want, c.e)
	}
}

// P21.3: sums and differences of histograms.
func TestMergeAndSubtract(t *testing.T) {
	const most = histogram.MaxTotal
	a, b := of(3, 1, 16, 2, 304, 5), of(0, 7, 16, 2, 17, 1)
	for _, c := range []struct {
		a, b, sum histogram.Histogram
		e         api.Errno
	}{
		{a, b, of(0, 7, 3, 1, 16, 4, 17, 1, 304, 5), api.OK},
		{a, of(), a, api.OK},
		{of(), of(), of(), api.OK},
		{of(0, 1), of(0, most-1), of(0, most), api.OK},
		{of(0, 1), of(0, most), of(), api.ErrOverflow},
		{of(0, 1), of(1, most), of(), api.ErrOverflow},
		{of(5, most), of(5, most), of(), api.ErrOverflow},
		{of(5, most), of(), of(5, most), api.OK},
	} {
		for _, l := range [][2]histogram.Histogram{{c.a, c.b}, {c.b, c.a}} {
			sum, e := histogram.Merge(l[0], l[1])
			expectHistogram(t, fmt.Sprint("Merge of ", l), sum, e, c.sum, c.e)
			if c.e == api.OK {
				rest, e := histogram.Subtract(sum, l[0])
				expectHistogram(t, fmt.Sprint("Subtract of ", l), rest, e, l[1], api.OK)
			}
		}
	}
	for _, c := range []struct {
		a, b, want histogram.Histogram
		e          api.Errno
	}{
		{a, of(3, 1, 304, 3), of(16, 2, 304, 2), api.OK},
		{a, a, of(), api.OK},
		{a, of(3, 2), of(), api.ErrConflict},
		{a, of(0, 1), of(), api.ErrConflict},
		{a, of(3, 1, 17, 1), of(), api.ErrConflict},
		{of(), a, of(), api.ErrConflict},
		{of(304, 1), of(304, 2), of(), api.ErrConflict},
	} {
		got, e := histogram.Subtract(c.a, c.b)
		expectHistogram(t, fmt.Sprintf("Subtract(%v, %v)", c.a, c.b), got, e, c.want, c.e)
	}
}

// P21.3: products of histograms.
func TestScale(t *testing.T) {
	const most = histogram.MaxTotal
	h := of(3, 1, 16, 2, 304, 5)
	for _, c := range []struct {
		h    histogram.Histogram
		by   int
		want histogram.Histogram
		e    api.Errno
	}{
		{h, 1, h, api.OK},
		{h, 3, of(3, 3, 16, 6, 304, 15), api.OK},
		{h, 0, of(), api.OK},
		{h, most / 8, of(3, most/8, 16, most/4, 304, most/8*5), api.OK},
		{h, most/8 + 1, of(), api.ErrOverflow},
		{of(0, 3), most / 3, of(0, most/3*3), api.OK},
		{of(0, 3), most/3 + 1, of(), api.ErrOverflow},
		{h, math.MaxInt, of(), api.ErrOverflow},
		{of(1, 1), most, of(1, most), api.OK},
		{of(1, 1), most + 1, of(), api.ErrOverflow},
		{of(1, 2), math.MaxInt/2 + 1, of(), api.ErrOverflow},
		{of(1, most), 1, of(1, most), api.OK},
		{of(1, most), 2, of(), api.ErrOverflow},
		{of(), math.MaxInt, of(), api.OK},
		{h, -1, of(), api.ErrRange},
		{of(), -1, of(), api.ErrRange},
		{h, math.MinInt, of(), api.ErrRange},
	} {
		got, e := histogram.Scale(c.h, c.by)
		expectHistogram(t, fmt.Sprintf("Scale(%v, %d)", c.h, c.by), got, e, c.want, c.e)
	}
}

// P21.7: histograms of parts, merged in any order, are that of the whole, and subtracting one leaves the others.
func TestPartsOfTheWhole(t *testing.T) {
	r := rand.New(rand.NewSource(2))
	for range 500 {
		a, b, c := someValues(r, 20), someValues(r, 20), someValues(r, 20)
		x, y, z := modelOf(a), modelOf(b), modelOf(c)
		whole := modelOf(slices.Concat(a, b, c))
		xy, _ := histogram.Merge(x, y)
		got, e := histogram.Merge(xy, z)
		expectHistogram(t, "Merge", got, e, whole, api.OK)
		yz, _ := histogram.Merge(z, y)
		got, e = histogram.Merge(yz, x)
		expectHistogram(t, "Merge in another order", got, e, whole, api.OK)
		got, e = histogram.Subtract(whole, z)
		expectHistogram(t, "Subtract", got, e, xy, api.OK)
		for _, v := range b {
			x, e = histogram.Add(x, v, 1)
			expectErr(t, "Add", e, api.OK)
		}
		expectHistogram(t, "Add of one value after another", x, api.OK, xy, api.OK)
		three, _ := histogram.Merge(yz, yz)
		three, _ = histogram.Merge(three, yz)
		got, e = histogram.Scale(yz, 3)
		expectHistogram(t, "Scale", got, e, three, api.OK)
	}
}

// P21.6: histograms are equal if their buckets are, whether they are valid or not.
func TestEqual(t *testing.T) {
	l := []histogram.Histogram{of(), of(0, 1), of(0, 2), of(1, 1), of(0, 1, 1, 1), of(1, 1, 0, 1), of(0, 0), of(0, 1, 0, 1), of(-1, math.MinInt)}
	for i := range l {
		for j := range l {
			if histogram.Equal(l[i], histogram.Histogram{Buckets: slices.Clone(l[j].Buckets)}) != (i == j) {
				t.Errorf("Equal(%v, %v) is wrong", l[i], l[j])
			}
		}
	}
	empty := histogram.Histogram{Buckets: []histogram.Bucket{}}
	if !histogram.Equal(empty, of()) || !histogram.Equal(of(), empty) {
		t.Error("nil and empty lists are not equal")
	}
}

// form returns the forms of some numbers one after another.
func form(l ...int) string {
	var w encoding.Writer
	for _, n := range l {
		w.Number(n)
	}
	return w.Bytes()
}

// P21.6: the form of a histogram.
func TestEncode(t *testing.T) {
	for _, c := range []struct {
		h    histogram.Histogram
		want string
	}{
		{of(), "\x80"},
		{of(0, 1), "\x81\x01\x80\x81\x01"},
		{of(3, 1, 16, 2, 304, 1<<19), "\x81\x03\x81\x03\x81\x01\x81\x10\x81\x02\x82\x01\x30\x83\x08\x00\x00"},
	} {
		if got := histogram.Encode(c.h); got != c.want {
			t.Errorf("Encode of %v: %x, want %x", c.h, got, c.want)
		}
		h, e := histogram.Decode(c.want)
		expectHistogram(t, fmt.Sprintf("Decode of %x", c.want), h, e, c.h, api.OK)
	}
}

// P21.6: what was encoded is decoded; a proper beginning is truncated, and a further byte is an error of form.
func TestDecodeInvertsEncode(t *testing.T) {
	r := rand.New(rand.NewSource(3))
	for range 200 {
		want := modelOf(someValues(r, 30))
		s := histogram.Encode(want)
		h, e := histogram.Decode(s)
		expectHistogram(t, fmt.Sprintf("Decode of %x", s), h, e, want, api.OK)
		for size := range len(s) {
			h, e := histogram.Decode(s[:size])
			expectHistogram(t, fmt.Sprintf("Decode of %x", s[:size]), h, e, of(), api.ErrTruncated)
		}
		h, e = histogram.Decode(s + "\x80")
		expectHistogram(t, "Decode of a form and a byte", h, e, of(), api.ErrForm)
	}
	all := []int{histogram.NumBuckets}
	for index := range histogram.NumBuckets {
		all = append(all, index, 1)
	}
	h, e := histogram.Decode(form(all...))
	expectHistogram(t, "Decode of all buckets", h, e, of(all[1:]...), api.OK)
}

// P21.6: errors of reading come before those of Check.
func TestDecodeErrors(t *testing.T) {
	const most = histogram.MaxTotal
	for _, c := range []struct {
		s string
		e api.Errno
	}{
		{"", api.ErrTruncated},
		{"\x00", api.ErrForm},
		{form(-1), api.ErrForm},
		{form(306), api.ErrLimit},
		{form(305), api.ErrTruncated},
		{form(1, 5), api.ErrTruncated},
		{form(2, 5, 1, 6), api.ErrTruncated},
		{form(1) + "\x00" + form(1), api.ErrForm},
		{form(1, 5) + "\x81\x00", api.ErrForm},
		{form(1, 5, 1, 1), api.ErrForm},
		{form(0, 0), api.ErrForm},
		{form(1, -1, 1), api.ErrRange},
		{form(1, 305, 1), api.ErrRange},
		{form(1, 5, 0), api.ErrRange},
		{form(1, 5, most+1), api.ErrRange},
		{form(2, 5, 1, 5, 1), api.ErrOrder},
		{form(2, 5, most, 6, most), api.ErrOverflow},
		{form(1, 305, 1, 1), api.ErrForm},
		{form(2, 305, 1, 5), api.ErrTruncated},
		{form(3, 6, 1, 5, 1) + "\x81\x00\x80", api.ErrForm},
		{form(2, 6, 1, 5, 0), api.ErrOrder},
	} {
		h, e := histogram.Decode(c.s)
		expectHistogram(t, fmt.Sprintf("Decode of %x", c.s), h, e, of(), c.e)
	}
}

// P1 and P21.6: nothing panics, whatever the bytes are, and what is decoded is valid and has the form.
func TestDecodeGarbage(t *testing.T) {
	r := rand.New(rand.NewSource(4))
	accepted := 0
	for range 20000 {
		b := []byte(histogram.Encode(modelOf(someValues(r, 5))))
		for range r.Intn(3) {
			b[r.Intn(len(b))] = byte(r.Intn(256))
		}
		h, e := histogram.Decode(string(b))
		if e != api.OK {
			expectHistogram(t, "Decode with an error", h, e, of(), e)
		} else if accepted++; histogram.Encode(h) != string(b) || histogram.Check(h) != api.OK {
			t.Errorf("%x is decoded, but is no form of a valid histogram", b)
		}
	}
	if accepted == 0 {
		t.Error("nothing was decoded, so nothing was tested")
	}
}

// P1: nothing panics for histograms that are not valid, and with an error there are zero values.
func TestNothingPanics(t *testing.T) {
	extremes := []int{math.MinInt, -1 << 40, -1, 0, 1, 16, 304, 305, 1 << 20, 1 << 41, math.MaxInt}
	for _, index := range extremes {
		for _, count := range extremes {
			for _, h := range []histogram.Histogram{of(index, count), of(5, 1, index, count), of(index, count, 5, 1, index, count)} {
				for _, n := range extremes {
					histogram.AtMost(h, n)
					for _, den := range extremes {
						low, high, e := histogram.Quantile(h, api.Fraction{Num: n, Den: den})
						if e != api.OK {
							expectInts(t, "Quantile with an error", two(low, high), 0, 0)
						}
					}
					for _, o := range extremes {
						got, e := histogram.Add(h, n, o)
						expectZero(t, "Add", got, e)
						got, e = histogram.Merge(h, of(n, o))
						expectZero(t, "Merge", got, e)
						got, e = histogram.Subtract(h, of(n, o))
						expectZero(t, "Subtract", got, e)
					}
					got, e := histogram.Scale(h, n)
					expectZero(t, "Scale", got, e)
				}
				histogram.Total(h)
				histogram.Sum(h)
				got, e := histogram.Decode(histogram.Encode(h))
				expectZero(t, "Decode", got, e)
				expectErr(t, fmt.Sprint("Decode of ", h), e, histogram.Check(h))
			}
		}
	}
}

func expectZero(t *testing.T, what string, h histogram.Histogram, e api.Errno) {
	t.Helper()
	if e != api.OK && len(h.Buckets) > 0 {
		t.Errorf("%s: %v with the error %d", what, h, e)
	}
}

// The rules that arguments are not modified, and that results are new.
func TestResultsAreIndependent(t *testing.T) {
	a, b := of(3, 1, 16, 2), of(3, 1)
	for _, change := range []func() histogram.Histogram{
		func() histogram.Histogram { h, _ := histogram.Add(a, 5, 1); return h },
		func() histogram.Histogram { h, _ := histogram.Add(a, 5, 0); return h },
		func() histogram.Histogram { h, _ := histogram.Merge(a, b); return h },
		func() histogram.Histogram { h, _ := histogram.Merge(a, of()); return h },
		func() histogram.Histogram { h, _ := histogram.Merge(of(), a); return h },
		func() histogram.Histogram { h, _ := histogram.Subtract(a, b); return h },
		func() histogram.Histogram { h, _ := histogram.Subtract(a, of()); return h },
		func() histogram.Histogram { h, _ := histogram.Scale(a, 1); return h },
	} {
		h := change()
		_ = append(h.Buckets[:1], histogram.Bucket{Index: 304, Count: 9})
		for k := range h.Buckets {
			h.Buckets[k].Count = 77
		}
		expectHistogram(t, "an argument", a, api.OK, of(3, 1, 16, 2), api.OK)
		expectHistogram(t, "an argument", b, api.OK, of(3, 1), api.OK)
	}
	values := []int{9, 5, 7}
	histogram.Of(values...)
	expectInts(t, "the values of Of", values, 9, 5, 7)
}
