package timeset_test

import (
	"math"
	"math/rand"
	"slices"
	"testing"

	"sleuth/api"
	"sleuth/timeset"
)

const most = timeset.MaxBound

// list returns the intervals with some bounds, two for each.
func list(bounds ...int) []api.Interval {
	var l []api.Interval
	for i := 0; i+1 < len(bounds); i += 2 {
		l = append(l, api.Interval{From: bounds[i], To: bounds[i+1]})
	}
	return l
}

// elements returns the integers of intervals in increasing order. There may be many only by mistake.
func elements(l []api.Interval) []int {
	var all []int
	for _, i := range l {
		for n := i.From; n < i.To; n++ {
			all = append(all, n)
		}
	}
	slices.Sort(all)
	return slices.Compact(all)
}

// normal returns the normal list of a set, from its elements in increasing order.
func normal(elements []int) []api.Interval {
	var l []api.Interval
	for k, n := range elements {
		if k == 0 || elements[k-1] != n-1 {
			l = append(l, api.Interval{From: n, To: n})
		}
		l[len(l)-1].To = n + 1
	}
	return l
}

// subset returns the set of the numbers from low on whose bits are set.
func subset(bits, low int) []api.Interval {
	var all []int
	for k := 0; bits>>k > 0; k++ {
		if bits>>k&1 == 1 {
			all = append(all, low+k)
		}
	}
	return normal(all)
}

// subsets returns all subsets of the numbers from low to low + size - 1.
func subsets(low, size int) [][]api.Interval {
	var sets [][]api.Interval
	for bits := range 1 << size {
		sets = append(sets, subset(bits, low))
	}
	return sets
}

// selected returns the numbers from low to high - 1 that are chosen, as a normal list.
func selected(low, high int, chosen func(n int) bool) []api.Interval {
	var all []int
	for n := low; n < high; n++ {
		if chosen(n) {
			all = append(all, n)
		}
	}
	return normal(all)
}

func has(s []api.Interval, n int) bool {
	return slices.ContainsFunc(s, func(i api.Interval) bool { return i.From <= n && n < i.To })
}

func expectSet(t *testing.T, name string, got, want []api.Interval) {
	t.Helper()
	if !slices.Equal(got, want) {
		t.Errorf("%s = %v, want %v", name, got, want)
	}
}

func expectResult(t *testing.T, name string, got []api.Interval, e api.Errno, want []api.Interval, wantError api.Errno) {
	t.Helper()
	expectSet(t, name, got, want)
	if e != wantError {
		t.Errorf("%s: error %d, want %d", name, e, wantError)
	}
}

// spread returns so many intervals that do not touch one another.
func spread(count int) []api.Interval {
	var l []api.Interval
	for k := range count {
		l = append(l, api.Interval{From: 2 * k, To: 2*k + 1})
	}
	return l
}

// The limits that the document names.
func TestLimits(t *testing.T) {
	if timeset.MaxBound != 1<<50 || timeset.MaxIntervals != 4096 {
		t.Error(timeset.MaxBound, timeset.MaxIntervals)
	}
}

// P3.1.
func TestCheck(t *testing.T) {
	tooMany := append(spread(timeset.MaxIntervals), list(math.MinInt, 0)...)
	for i, c := range []struct {
		s []api.Interval
		e api.Errno
	}{
		{nil, api.OK},
		{[]api.Interval{}, api.OK},
		{list(-most, most), api.OK},
		{list(most-1, most), api.OK},
		{list(0, 1, 2, 3, 9, 12), api.OK},
		{spread(timeset.MaxIntervals), api.OK},
		{tooMany, api.ErrLimit},
		{make([]api.Interval, timeset.MaxIntervals+1), api.ErrLimit},
		{list(-most-1, 0), api.ErrRange},
		{list(0, most+1), api.ErrRange},
		{list(most+1, 0), api.ErrRange},
		{list(0, -most-1), api.ErrRange},
		{list(math.MinInt, math.MaxInt), api.ErrRange},
		{list(3, 3), api.ErrEmpty},
		{list(3, 2), api.ErrEmpty},
		{list(most, most), api.ErrEmpty},
		{list(-most, -most), api.ErrEmpty},
		{list(0, 2, 2, 3), api.ErrOrder},
		{list(0, 2, 1, 3), api.ErrOrder},
		{list(5, 6, 1, 3), api.ErrOrder},
		{list(5, 6, 5, 6), api.ErrOrder},
		{list(0, 1, 5, 4), api.ErrEmpty},
		{list(5, 6, 2, 2), api.ErrEmpty},
		{list(5, 6, 1, 2, most+1, 0), api.ErrOrder},
		{list(5, 5, most+1, 0), api.ErrEmpty},
		{list(5, 6, most+1, 0, 1, 2), api.ErrRange},
		{list(5, 6, -most-1, 0), api.ErrRange},
	} {
		if e := timeset.Check(c.s); e != c.e {
			t.Errorf("%d: Check = %d, want %d", i, e, c.e)
		}
	}
}

// P3.2.
func TestNormal(t *testing.T) {
	tooMany := append(spread(timeset.MaxIntervals), list(math.MinInt, 0)...)
	for _, c := range []struct {
		l, want []api.Interval
		e       api.Errno
	}{
		{nil, nil, api.OK},
		{list(3, 5, 1, 3, 8, 8, 4, 6), list(1, 6), api.OK},
		{list(5, 5, 7, 3), nil, api.OK},
		{list(most, -most, -most, -most, most, most), nil, api.OK},
		{list(5, 2, 3, 4), list(3, 4), api.OK},
		{list(0, 10, 2, 3, 5, 20, 4, 5), list(0, 20), api.OK},
		{list(2, 3, 0, 1), list(0, 1, 2, 3), api.OK},
		{list(1, 2, 1, 9, 1, 3), list(1, 9), api.OK},
		{list(-most, 0, 0, most), list(-most, most), api.OK},
		{spread(timeset.MaxIntervals), spread(timeset.MaxIntervals), api.OK},
		{make([]api.Interval, timeset.MaxIntervals), nil, api.OK},
		{make([]api.Interval, timeset.MaxIntervals+1), nil, api.ErrLimit},
		{tooMany, nil, api.ErrLimit},
		{list(0, most+1), nil, api.ErrRange},
		{list(-most-1, 0), nil, api.ErrRange},
		{list(0, 1, most+1, 0), nil, api.ErrRange},
		{list(0, 1, 5, -most-1), nil, api.ErrRange},
		{list(math.MaxInt, math.MinInt), nil, api.ErrRange},
	} {
		s, e := timeset.Normal(c.l)
		expectResult(t, "Normal", s, e, c.want, c.e)
	}
}

// P3.2 and P3.10: of any list, Normal returns a list that Check accepts, with the same elements. A list is normal exactly if it is its own normal list.
func TestNormalOfRandomLists(t *testing.T) {
	random := rand.New(rand.NewSource(1))
	accepted := 0
	for range 20000 {
		var l []api.Interval
		for range random.Intn(5) {
			from := random.Intn(20) - 10
			l = append(l, api.Interval{From: from, To: from + random.Intn(6) - 1})
		}
		s, e := timeset.Normal(l)
		expectResult(t, "Normal", s, e, normal(elements(l)), api.OK)
		if timeset.Check(s) != api.OK {
			t.Errorf("Normal(%v) = %v is not normal", l, s)
		}
		is := timeset.Check(l) == api.OK
		if is != timeset.Equal(s, l) {
			t.Errorf("Check(%v) is %v, its normal list %v", l, is, s)
		}
		if is {
			accepted++
		}
	}
	if accepted < 100 {
		t.Errorf("only %d normal lists", accepted)
	}
}

// P3.3, P3.4 and P3.10: the operations of two sets, for all pairs of small sets.
func TestPairsOfSets(t *testing.T) {
	const low, high = -3, 4
	sets := subsets(low, high-low)
	for _, a := range sets {
		for _, b := range sets {
			union, common, rest := timeset.Union(a, b), timeset.Intersect(a, b), timeset.Minus(a, b)
			expectSet(t, "Union", union, selected(low, high, func(n int) bool { return has(a, n) || has(b, n) }))
			expectSet(t, "Intersect", common, selected(low, high, func(n int) bool { return has(a, n) && has(b, n) }))
			expectSet(t, "Minus", rest, selected(low, high, func(n int) bool { return has(a, n) && !has(b, n) }))
			expectSet(t, "Union", timeset.Union(b, a), union)
			expectSet(t, "Intersect", timeset.Intersect(b, a), common)
			missing := selected(low, high, func(n int) bool { return has(b, n) && !has(a, n) })
			if timeset.Covers(a, b) != (len(missing) == 0) || timeset.Overlaps(a, b) != (len(common) > 0) || timeset.Equal(a, b) != slices.Equal(a, b) {
				t.Errorf("Covers %v, Overlaps %v, Equal %v of %v and %v", timeset.Covers(a, b), timeset.Overlaps(a, b), timeset.Equal(a, b), a, b)
			}
			if timeset.Length(a)+timeset.Length(b) != timeset.Length(union)+timeset.Length(common) {
				t.Errorf("the lengths of %v and %v", a, b)
			}
		}
	}
}

// P3.3: sets with the greatest bounds, and with the empty set.
func TestOperationsAtTheBounds(t *testing.T) {
	all, left, right := list(-most, most), list(-most, 0), list(0, most)
	expectSet(t, "Union", timeset.Union(left, right), all)
	expectSet(t, "Intersect", timeset.Intersect(left, right), nil)
	expectSet(t, "Intersect", timeset.Intersect(all, right), right)
	expectSet(t, "Minus", timeset.Minus(all, right), left)
	expectSet(t, "Minus", timeset.Minus(all, list(-1, 1)), list(-most, -1, 1, most))
	expectSet(t, "Union", timeset.Union(nil, right), right)
	expectSet(t, "Union", timeset.Union(nil, nil), nil)
	expectSet(t, "Minus", timeset.Minus(all, nil), all)
	expectSet(t, "Minus", timeset.Minus(nil, all), nil)
	expectSet(t, "Intersect", timeset.Intersect(all, nil), nil)
	expectSet(t, "Minus", timeset.Minus(list(1, 6), list(2, 3)), list(1, 2, 3, 6))
	if !timeset.Covers(all, left) || timeset.Covers(left, all) || !timeset.Covers(left, nil) || !timeset.Covers(nil, nil) || timeset.Covers(nil, left) {
		t.Error("Covers")
	}
	if timeset.Overlaps(left, right) || !timeset.Overlaps(all, right) || timeset.Overlaps(all, nil) {
		t.Error("Overlaps")
	}
}

// P3.3: results can have more intervals than MaxIntervals.
func TestResultsWithMoreIntervals(t *testing.T) {
	a := spread(timeset.MaxIntervals)
	b, _ := timeset.Shift(a, 2*timeset.MaxIntervals)
	union := timeset.Union(a, b)
	expectSet(t, "Union", union, spread(2*timeset.MaxIntervals))
	expectSet(t, "Minus", timeset.Minus(list(-most, most), union)[1:], timeset.Union(timeset.Gaps(union), list(4*timeset.MaxIntervals-1, most)))
	if timeset.Check(union) != api.ErrLimit {
		t.Error("Check")
	}
}

// P3.4: Equal compares lists, be they normal or not.
func TestEqual(t *testing.T) {
	for _, c := range []struct {
		a, b []api.Interval
		want bool
	}{
		{nil, []api.Interval{}, true},
		{nil, list(0, 0), false},
		{list(1, 3), list(1, 3), true},
		{list(1, 3), list(1, 4), false},
		{list(1, 3), list(0, 3), false},
		{list(1, 3), list(1, 2, 2, 3), false},
		{list(1, 3, 5, 6), list(5, 6, 1, 3), false},
		{list(1, 3, 5, 6), list(1, 3), false},
		{list(5, 2), list(5, 2), true},
		{list(5, 2), list(7, 1), false},
	} {
		if timeset.Equal(c.a, c.b) != c.want || timeset.Equal(c.b, c.a) != c.want {
			t.Errorf("Equal(%v, %v) is not %v", c.a, c.b, c.want)
		}
	}
}

// P3.10: Union and Intersect distribute over one another.
func TestDistribution(t *testing.T) {
	sets := subsets(0, 5)
	for _, a := range sets {
		for _, b := range sets {
			for _, c := range sets {
				expectSet(t, "Intersect", timeset.Intersect(a, timeset.Union(b, c)), timeset.Union(timeset.Intersect(a, b), timeset.Intersect(a, c)))
				expectSet(t, "Union", timeset.Union(a, timeset.Intersect(b, c)), timeset.Intersect(timeset.Union(a, b), timeset.Union(a, c)))
			}
		}
	}
}

type finding struct {
	n  int
	is bool
}

func found(n int, is bool) finding { return finding{n, is} }

// P3.4 to P3.7 and P3.10: what is asked about one set, for all small sets.
func TestQuestions(t *testing.T) {
	const low, high = -4, 6
	for _, s := range subsets(low, high-low) {
		all := elements(s)
		if timeset.Length(s) != len(all) {
			t.Errorf("Length(%v) = %d", s, timeset.Length(s))
		}
		for n := low - 3; n < high+3; n++ {
			rank, is := slices.BinarySearch(all, n)
			var next, previous finding
			if rank < len(all) {
				next = finding{all[rank], true}
			}
			if is {
				previous = finding{n, true}
			} else if rank > 0 {
				previous = finding{all[rank-1], true}
			}
			if timeset.Contains(s, n) != is || timeset.Rank(s, n) != rank {
				t.Errorf("Contains and Rank of %v and %d: %v, %d", s, n, timeset.Contains(s, n), timeset.Rank(s, n))
			}
			if found(timeset.Next(s, n)) != next || found(timeset.Previous(s, n)) != previous {
				t.Errorf("Next and Previous of %v and %d: %v, %v", s, n, found(timeset.Next(s, n)), found(timeset.Previous(s, n)))
			}
		}
		for k := -2; k < len(all)+3; k++ {
			var want finding
			if k >= 0 && k < len(all) {
				want = finding{all[k], true}
			}
			got := found(timeset.Nth(s, k))
			if got != want || got.is && timeset.Rank(s, got.n) != k {
				t.Errorf("Nth(%v, %d) = %v", s, k, got)
			}
		}
		checkHull(t, s, all)
	}
}

func checkHull(t *testing.T, s []api.Interval, all []int) {
	t.Helper()
	hull, is := timeset.Hull(s)
	gaps := timeset.Gaps(s)
	if len(all) == 0 {
		if hull != (api.Interval{}) || is || len(gaps) > 0 {
			t.Errorf("Hull and Gaps of the empty set: %v, %v, %v", hull, is, gaps)
		}
		return
	}
	want := api.Interval{From: all[0], To: all[len(all)-1] + 1}
	if hull != want || !is {
		t.Errorf("Hull(%v) = %v, %v", s, hull, is)
	}
	expectSet(t, "Gaps", gaps, selected(want.From, want.To, func(n int) bool { return !has(s, n) }))
	expectSet(t, "the union of a set and its gaps", timeset.Union(s, gaps), []api.Interval{hull})
}

// P3.4 to P3.7: great sets and any ints.
func TestQuestionsAtTheBounds(t *testing.T) {
	all, two := list(-most, most), list(-most, 1-most, most-1, most)
	for _, n := range []int{-most - 1, math.MinInt, most, math.MaxInt} {
		if timeset.Contains(all, n) {
			t.Errorf("Contains %d", n)
		}
	}
	if !timeset.Contains(all, -most) || !timeset.Contains(all, most-1) || !timeset.Contains(two, most-1) || timeset.Contains(two, 0) {
		t.Error("Contains")
	}
	for n, rank := range map[int]int{math.MinInt: 0, -most: 0, 1 - most: 1, 0: most, most: 2 * most, math.MaxInt: 2 * most} {
		if timeset.Rank(all, n) != rank {
			t.Errorf("Rank of %d = %d", n, timeset.Rank(all, n))
		}
	}
	if timeset.Length(all) != 2*most || timeset.Length(nil) != 0 || timeset.Rank(nil, 5) != 0 {
		t.Error("Length or Rank")
	}
	for _, c := range []struct{ got, want finding }{
		{found(timeset.Nth(all, 0)), finding{-most, true}},
		{found(timeset.Nth(all, 2*most-1)), finding{most - 1, true}},
		{found(timeset.Nth(all, 2*most)), finding{}},
		{found(timeset.Nth(all, math.MaxInt)), finding{}},
		{found(timeset.Nth(all, math.MinInt)), finding{}},
		{found(timeset.Nth(two, 1)), finding{most - 1, true}},
		{found(timeset.Nth(nil, 0)), finding{}},
		{found(timeset.Next(two, math.MinInt)), finding{-most, true}},
		{found(timeset.Next(two, 1-most)), finding{most - 1, true}},
		{found(timeset.Next(two, most)), finding{}},
		{found(timeset.Next(two, math.MaxInt)), finding{}},
		{found(timeset.Next(nil, 0)), finding{}},
		{found(timeset.Previous(two, math.MinInt)), finding{}},
		{found(timeset.Previous(two, -most-1)), finding{}},
		{found(timeset.Previous(two, most-2)), finding{-most, true}},
		{found(timeset.Previous(two, math.MaxInt)), finding{most - 1, true}},
		{found(timeset.Previous(nil, 0)), finding{}},
	} {
		if c.got != c.want {
			t.Errorf("%v, want %v", c.got, c.want)
		}
	}
	expectSet(t, "Gaps", timeset.Gaps(two), list(1-most, most-1))
	expectSet(t, "Gaps", timeset.Gaps(nil), nil)
}

// P3.4 to P3.6: lists of all lengths, so that the search is tested at every place.
func TestSearch(t *testing.T) {
	for count := range 40 {
		s := spread(count)
		for n := -2; n < 2*count+2; n++ {
			if timeset.Contains(s, n) != has(s, n) {
				t.Errorf("Contains(%v, %d)", s, n)
			}
		}
		for k, i := range s {
			if timeset.Rank(s, i.From) != k || timeset.Rank(s, i.To) != k+1 || found(timeset.Nth(s, k)) != (finding{i.From, true}) {
				t.Errorf("Rank or Nth: %d of %d", k, count)
			}
			if found(timeset.Next(s, i.From-1)) != (finding{i.From, true}) || found(timeset.Previous(s, i.To)) != (finding{i.From, true}) {
				t.Errorf("Next or Previous: %d of %d", k, count)
			}
		}
	}
}

// P3.8.
func TestShift(t *testing.T) {
	for _, c := range []struct {
		s    []api.Interval
		by   int
		want []api.Interval
		e    api.Errno
	}{
		{list(1, 2, 3, 6), -5, list(-4, -3, -2, 1), api.OK},
		{list(1, 2, 3, 6), 0, list(1, 2, 3, 6), api.OK},
		{list(-most, 1-most), 2*most - 1, list(most-1, most), api.OK},
		{list(most-1, most), 1 - 2*most, list(-most, 1-most), api.OK},
		{list(-most, 1-most), 2 * most, nil, api.ErrRange},
		{list(0, 1), most, nil, api.ErrRange},
		{list(0, 1), most - 1, list(most-1, most), api.OK},
		{list(0, 1), -most, list(-most, 1-most), api.OK},
		{list(0, 1), -most - 1, nil, api.ErrRange},
		{list(0, 1, 5, 6), most - 2, nil, api.ErrRange},
		{list(0, 1, 5, 6), -most - 2, nil, api.ErrRange},
		{nil, 2 * most, nil, api.OK},
		{nil, -2 * most, nil, api.OK},
		{nil, 2*most + 1, nil, api.ErrRange},
		{nil, -2*most - 1, nil, api.ErrRange},
		{list(0, 1), math.MaxInt, nil, api.ErrRange},
		{list(0, 1), math.MinInt, nil, api.ErrRange},
	} {
		s, e := timeset.Shift(c.s, c.by)
		expectResult(t, "Shift", s, e, c.want, c.e)
	}
}

// P3.8.
func TestGrow(t *testing.T) {
	for _, c := range []struct {
		s             []api.Interval
		before, after int
		want          []api.Interval
		e             api.Errno
	}{
		{list(1, 2, 3, 6), 0, 1, list(1, 7), api.OK},
		{list(1, 2, 3, 6), 1, 0, list(0, 6), api.OK},
		{list(1, 2, 3, 6), 0, 0, list(1, 2, 3, 6), api.OK},
		{list(1, 2, 4, 6), 1, 0, list(0, 2, 3, 6), api.OK},
		{list(1, 2, 4, 6), 1, 1, list(0, 7), api.OK},
		{list(0, 1), most, most - 1, list(-most, most), api.OK},
		{list(0, 1), most + 1, 0, nil, api.ErrRange},
		{list(0, 1), 0, most, nil, api.ErrRange},
		{list(0, 1, 5, 6), most + 1, 0, nil, api.ErrRange},
		{list(0, 1, 5, 6), 0, most - 5, nil, api.ErrRange},
		{list(most-1, most), 2*most - 1, 0, list(-most, most), api.OK},
		{list(most-1, most), 2 * most, 0, nil, api.ErrRange},
		{list(0, 1), -1, 0, nil, api.ErrRange},
		{list(0, 1), 0, -1, nil, api.ErrRange},
		{nil, -1, 0, nil, api.ErrRange},
		{nil, 0, -1, nil, api.ErrRange},
		{nil, 2 * most, 2 * most, nil, api.OK},
		{nil, 2*most + 1, 0, nil, api.ErrRange},
		{nil, 0, 2*most + 1, nil, api.ErrRange},
		{list(0, 1), math.MinInt, math.MaxInt, nil, api.ErrRange},
		{list(0, 1), math.MaxInt, math.MaxInt, nil, api.ErrRange},
	} {
		s, e := timeset.Grow(c.s, c.before, c.after)
		expectResult(t, "Grow", s, e, c.want, c.e)
	}
}

// P3.8 and P3.9, for all small sets.
func TestMovedSets(t *testing.T) {
	for _, s := range subsets(-4, 9) {
		for by := -3; by <= 3; by++ {
			moved, e := timeset.Shift(s, by)
			expectResult(t, "Shift", moved, e, selected(-9, 9, func(n int) bool { return has(s, n-by) }), api.OK)
		}
		for before := range 4 {
			for after := range 4 {
				grown, e := timeset.Grow(s, before, after)
				near := func(n int) bool {
					return slices.ContainsFunc(elements(s), func(m int) bool { return m-before <= n && n <= m+after })
				}
				expectResult(t, "Grow", grown, e, selected(-9, 9, near), api.OK)
			}
		}
		for size := 1; size <= 11; size++ {
			cells, e := timeset.Coarsen(s, size)
			occupied := func(k int) bool {
				return slices.ContainsFunc(elements(s), func(m int) bool { return k*size <= m && m < (k+1)*size })
			}
			expectResult(t, "Coarsen", cells, e, selected(-9, 9, occupied), api.OK)
		}
	}
}

// P3.9.
func TestCoarsen(t *testing.T) {
	for _, c := range []struct {
		s    []api.Interval
		size int
		want []api.Interval
		e    api.Errno
	}{
		{list(-3, 2), 4, list(-1, 1), api.OK},
		{list(-4, 0), 4, list(-1, 0), api.OK},
		{list(-5, 4), 4, list(-2, 1), api.OK},
		{list(0, 1, 2, 3, 8, 9), 4, list(0, 1, 2, 3), api.OK},
		{list(0, 1, 3, 4, 5, 6), 4, list(0, 2), api.OK},
		{list(-most, most), 1, list(-most, most), api.OK},
		{list(-most, most), most, list(-1, 1), api.OK},
		{list(-most, most), most - 1, list(-2, 2), api.OK},
		{list(most-1, most), most, list(0, 1), api.OK},
		{list(-1, 0), most, list(-1, 0), api.OK},
		{nil, most, nil, api.OK},
		{nil, 0, nil, api.ErrRange},
		{list(0, 1), 0, nil, api.ErrRange},
		{list(0, 1), -1, nil, api.ErrRange},
		{list(0, 1), most + 1, nil, api.ErrRange},
		{list(0, 1), math.MinInt, nil, api.ErrRange},
	} {
		s, e := timeset.Coarsen(c.s, c.size)
		expectResult(t, "Coarsen", s, e, c.want, c.e)
	}
}

// P3.10: Coarsen of unions, and by two sizes.
func TestCoarsenLaws(t *testing.T) {
	random := rand.New(rand.NewSource(2))
	coarsen := func(s []api.Interval, size int) []api.Interval {
		cells, _ := timeset.Coarsen(s, size)
		return cells
	}
	for range 5000 {
		a, b := subset(random.Intn(1<<20), random.Intn(40)-30), subset(random.Intn(1<<20), random.Intn(40)-30)
		x, y := 1+random.Intn(7), 1+random.Intn(7)
		expectSet(t, "Coarsen of a union", coarsen(timeset.Union(a, b), x), timeset.Union(coarsen(a, x), coarsen(b, x)))
		expectSet(t, "Coarsen by two sizes", coarsen(coarsen(a, x), y), coarsen(a, x*y))
	}
	great := list(-most, 5-most, 12345, 67890, most-7, most)
	expectSet(t, "Coarsen by two sizes", coarsen(coarsen(great, 1<<25), 1<<25), coarsen(great, most))
}

// P1: lists that are not normal do no harm. Results with an error or false are zero.
func TestListsThatAreNotNormal(t *testing.T) {
	random := rand.New(rand.NewSource(3))
	numbers := []int{0, 1, -1, 5, most, -most, most + 1, math.MaxInt, math.MinInt, math.MaxInt - 1, math.MinInt + 1}
	number := func() int { return numbers[random.Intn(len(numbers))] }
	some := func() []api.Interval {
		var l []api.Interval
		for range random.Intn(6) {
			l = append(l, api.Interval{From: number(), To: number()})
		}
		return l
	}
	zeroUnless := func(ok bool, isZero bool) {
		if !ok && !isZero {
			t.Error("a result together with an error or false")
		}
	}
	for range 20000 {
		a, b, n, m := some(), some(), number(), number()
		keptA, keptB := slices.Clone(a), slices.Clone(b)
		timeset.Check(a)
		s, e := timeset.Normal(a)
		zeroUnless(e == api.OK, len(s) == 0)
		timeset.Union(a, b)
		timeset.Intersect(a, b)
		timeset.Minus(a, b)
		timeset.Contains(a, n)
		timeset.Covers(a, b)
		timeset.Overlaps(a, b)
		timeset.Equal(a, b)
		timeset.Length(a)
		timeset.Rank(a, n)
		for _, f := range []finding{found(timeset.Nth(a, n)), found(timeset.Next(a, n)), found(timeset.Previous(a, n))} {
			zeroUnless(f.is, f.n == 0)
		}
		hull, is := timeset.Hull(a)
		zeroUnless(is, hull == api.Interval{})
		timeset.Gaps(a)
		s, e = timeset.Shift(a, n)
		zeroUnless(e == api.OK, len(s) == 0)
		s, e = timeset.Grow(a, n, m)
		zeroUnless(e == api.OK, len(s) == 0)
		s, e = timeset.Coarsen(a, n)
		zeroUnless(e == api.OK, len(s) == 0)
		if !slices.Equal(a, keptA) || !slices.Equal(b, keptB) {
			t.Fatal("an argument was modified")
		}
	}
}

// The rules that arguments are not modified, and that results are newly allocated.
func TestResultsAreNew(t *testing.T) {
	for name, call := range map[string]func(s []api.Interval) []api.Interval{
		"Normal":    func(s []api.Interval) []api.Interval { r, _ := timeset.Normal(s); return r },
		"Union":     func(s []api.Interval) []api.Interval { return timeset.Union(s, nil) },
		"Intersect": func(s []api.Interval) []api.Interval { return timeset.Intersect(s, s) },
		"Minus":     func(s []api.Interval) []api.Interval { return timeset.Minus(s, nil) },
		"Gaps":      timeset.Gaps,
		"Shift":     func(s []api.Interval) []api.Interval { r, _ := timeset.Shift(s, 0); return r },
		"Grow":      func(s []api.Interval) []api.Interval { r, _ := timeset.Grow(s, 0, 0); return r },
		"Coarsen":   func(s []api.Interval) []api.Interval { r, _ := timeset.Coarsen(s, 1); return r },
	} {
		s := list(1, 2, 3, 6, 8, 9)
		r := call(s[:2])
		_ = append(r, api.Interval{From: 99, To: 100})
		for i := range r {
			r[i].To = 77
		}
		expectSet(t, name+" and its argument", s, list(1, 2, 3, 6, 8, 9))
	}
	unsorted := list(3, 5, 1, 3, 8, 8, 4, 6)
	timeset.Normal(unsorted)
	expectSet(t, "the argument of Normal", unsorted, list(3, 5, 1, 3, 8, 8, 4, 6))
}
