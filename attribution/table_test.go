package attribution_test

import (
	"fmt"
	"math"
	"math/big"
	"math/rand"
	"slices"
	"testing"

	"sleuth/api"
	"sleuth/attribution"
)

// entry returns an entry with four numbers.
func entry(service, version, operation string, numbers ...int) attribution.Entry {
	n := attribution.Entry{Key: attribution.Key{Service: service, Version: version, Operation: operation}}
	n.Time, n.Spans, n.Errors, n.Origins = numbers[0], numbers[1], numbers[2], numbers[3]
	return n
}

func expectErr(t *testing.T, what string, got, want api.Errno) {
	t.Helper()
	if got != want {
		t.Errorf("%s: the error %d, want %d", what, got, want)
	}
}

func expectTable(t *testing.T, what string, got attribution.Table, f api.Errno, want attribution.Table, wantErr api.Errno) {
	t.Helper()
	if !slices.Equal(got, want) || f != wantErr {
		t.Errorf("%s: %v, %d; want %v, %d", what, got, f, want, wantErr)
	}
}

func expectInt(t *testing.T, what string, got, want int) {
	t.Helper()
	if got != want {
		t.Errorf("%s: %d, want %d", what, got, want)
	}
}

// P19.1: keys are ordered by service, version and operation.
func TestCompareKeys(t *testing.T) {
	ordered := []attribution.Key{
		{}, {Operation: "z"}, {Version: "1"}, {Version: "1", Operation: "a"}, {Version: "10"}, {Version: "9", Operation: "a"},
		{Service: "B"}, {Service: "a"}, {Service: "a", Operation: "b"}, {Service: "a", Version: "1"}, {Service: "a", Version: "1", Operation: "a"},
		{Service: "a", Version: "2", Operation: ""}, {Service: "aa"}, {Service: "b", Version: "", Operation: "a"}, {Service: "\xff"},
	}
	for i, a := range ordered {
		for j, b := range ordered {
			want := 0
			if i < j {
				want = -1
			} else if i > j {
				want = 1
			}
			expectInt(t, fmt.Sprintf("CompareKeys(%v, %v)", a, b), attribution.CompareKeys(a, b), want)
		}
	}
}

// P19.1: the errors of tables in their order.
func TestCheck(t *testing.T) {
	const most = attribution.MaxTotal
	a, b, empty := entry("a", "", "x", 1, 1, 0, 0), entry("b", "", "x", 5, 2, 1, 1), entry("c", "", "x", 0, 0, 0, 0)
	for _, c := range []struct {
		t attribution.Table
		f api.Errno
	}{
		{nil, api.OK},
		{attribution.Table{}, api.OK},
		{attribution.Table{a, b}, api.OK},
		{attribution.Table{entry("", "", "", 0, 1, 0, 0)}, api.OK},
		{attribution.Table{entry("", "", "", 1, 0, 0, 0)}, api.OK},
		{attribution.Table{entry("a", "", "", most, most, most, most)}, api.OK},
		{attribution.Table{b, a}, api.ErrOrder},
		{attribution.Table{a, a}, api.ErrOrder},
		{attribution.Table{b, entry("a", "", "", 0, 0, 0, 0)}, api.ErrOrder},
		{attribution.Table{b, entry("a", "", "", -1, 0, 0, 0)}, api.ErrOrder},
		{attribution.Table{entry("a", "2", "", 1, 0, 0, 0), entry("a", "1", "z", 1, 0, 0, 0)}, api.ErrOrder},
		{attribution.Table{empty}, api.ErrEmpty},
		{attribution.Table{a, b, empty, a}, api.ErrEmpty},
		{attribution.Table{entry("a", "", "", -1, 0, 0, 0), a, empty}, api.ErrRange},
		{attribution.Table{entry("a", "", "", most+1, 0, 0, 0)}, api.ErrRange},
		{attribution.Table{entry("a", "", "", math.MinInt, 1, 0, 0)}, api.ErrRange},
		{attribution.Table{entry("a", "", "", 1, -1, 0, 0)}, api.ErrRange},
		{attribution.Table{entry("a", "", "", 1, -1, -1, -1)}, api.ErrRange},
		{attribution.Table{entry("a", "", "", 1, -1, -2, -3)}, api.ErrRange},
		{attribution.Table{entry("a", "", "", 1, most+1, 0, 0)}, api.ErrRange},
		{attribution.Table{entry("a", "", "", 1, 1, -1, -1)}, api.ErrRange},
		{attribution.Table{entry("a", "", "", 1, 1, -1, -2)}, api.ErrRange},
		{attribution.Table{entry("a", "", "", 1, 1, 2, 0)}, api.ErrRange},
		{attribution.Table{entry("a", "", "", 1, 0, 1, 1)}, api.ErrRange},
		{attribution.Table{entry("a", "", "", 1, 1, 1, -1)}, api.ErrRange},
		{attribution.Table{entry("a", "", "", 1, 2, 1, 2)}, api.ErrRange},
		{attribution.Table{entry("a", "", "", 0, 0, 0, 1)}, api.ErrRange},
		{attribution.Table{entry("a", "", "", 0, 0, 1, 0)}, api.ErrRange},
		{attribution.Table{a, entry("b", "", "", most-1, most-1, 0, 0)}, api.OK},
		{attribution.Table{a, entry("b", "", "", most, 0, 0, 0)}, api.ErrOverflow},
		{attribution.Table{a, entry("b", "", "", 0, most, 0, 0)}, api.ErrOverflow},
		{attribution.Table{a, entry("b", "", "", most, 0, 0, 0), entry("c", "", "", most+1, 0, 0, 0)}, api.ErrRange},
		{attribution.Table{a, entry("b", "", "", most, 0, 0, 0), empty}, api.ErrEmpty},
		{attribution.Table{a, entry("b", "", "", most, 0, 0, 0), a}, api.ErrOrder},
	} {
		expectErr(t, fmt.Sprint("Check of ", c.t), attribution.Check(c.t), c.f)
	}
	var large attribution.Table
	for k := range 4096 {
		large = append(large, entry(fmt.Sprintf("%04d", k), "", "", most, most, 0, 0))
	}
	expectErr(t, "Check of a sum that does not fit", attribution.Check(large), api.ErrOverflow)
}

// P19.1: tables are equal if their entries are.
func TestEqual(t *testing.T) {
	a, b := entry("a", "1", "x", 1, 2, 1, 0), entry("b", "1", "x", 1, 2, 1, 0)
	tables := []attribution.Table{nil, {a}, {b}, {a, b}, {b, a}, {a, a}, {entry("a", "1", "x", 2, 2, 1, 0)}, {entry("a", "1", "x", 1, 2, 1, 1)}, {entry("a", "2", "x", 1, 2, 1, 0)}}
	for i := range tables {
		for j := range tables {
			if attribution.Equal(tables[i], slices.Clone(tables[j])) != (i == j) {
				t.Errorf("Equal(%v, %v) is wrong", tables[i], tables[j])
			}
		}
	}
	if !attribution.Equal(nil, attribution.Table{}) || !attribution.Equal(attribution.Table{}, nil) {
		t.Error("nil and empty tables are not equal")
	}
}

// P19.4: sums and differences of tables.
func TestMerge(t *testing.T) {
	a := attribution.Table{entry("a", "1", "x", 1, 2, 1, 0), entry("b", "1", "x", 10, 20, 10, 5)}
	b := attribution.Table{entry("a", "1", "w", 7, 1, 0, 0), entry("b", "1", "x", 10, 21, 9, 6), entry("c", "", "x", 0, 1, 0, 0)}
	sum, f := attribution.Merge(a, b)
	expectTable(t, "Merge", sum, f, attribution.Table{entry("a", "1", "w", 7, 1, 0, 0), entry("a", "1", "x", 1, 2, 1, 0), entry("b", "1", "x", 20, 41, 19, 11), entry("c", "", "x", 0, 1, 0, 0)}, api.OK)
	expectTable(t, "Difference", attribution.Difference(a, b), api.OK, attribution.Table{entry("a", "1", "w", -7, -1, 0, 0), entry("a", "1", "x", 1, 2, 1, 0), entry("b", "1", "x", 0, -1, 1, -1), entry("c", "", "x", 0, -1, 0, 0)}, api.OK)
	expectTable(t, "Difference", attribution.Difference(a, a), api.OK, nil, api.OK)
	expectTable(t, "Difference", attribution.Difference(nil, attribution.Table{entry("a", "1", "x", 0, 2, 1, 1)}), api.OK, attribution.Table{entry("a", "1", "x", 0, -2, -1, -1)}, api.OK)
	expectTable(t, "Difference", attribution.Difference(a, nil), api.OK, a, api.OK)
	sum, f = attribution.Merge(a, nil)
	expectTable(t, "Merge", sum, f, a, api.OK)
	sum, f = attribution.Merge(nil, nil)
	expectTable(t, "Merge", sum, f, nil, api.OK)
}

// P19.4: sums that are too great.
func TestMergeOverflow(t *testing.T) {
	const most = attribution.MaxTotal
	for _, c := range []struct {
		a, b attribution.Entry
		f    api.Errno
	}{
		{entry("a", "", "", most-1, 0, 0, 0), entry("a", "", "", 1, 0, 0, 0), api.OK},
		{entry("a", "", "", most, 0, 0, 0), entry("a", "", "", 1, 0, 0, 0), api.ErrOverflow},
		{entry("a", "", "", most, 0, 0, 0), entry("b", "", "", 0, most, most, most), api.OK},
		{entry("a", "", "", most, 0, 0, 0), entry("b", "", "", 1, 0, 0, 0), api.ErrOverflow},
		{entry("a", "", "", 0, 1, 0, 0), entry("a", "", "", 0, most, 0, 0), api.ErrOverflow},
		{entry("a", "", "", 0, 1, 0, 0), entry("b", "", "", 0, most, 0, 0), api.ErrOverflow},
		{entry("a", "", "", 0, most/2, 0, 0), entry("b", "", "", 0, most/2, most/2, 0), api.OK},
	} {
		for _, l := range [][2]attribution.Table{{{c.a}, {c.b}}, {{c.b}, {c.a}}} {
			sum, f := attribution.Merge(l[0], l[1])
			expectErr(t, fmt.Sprint("Merge of ", l), f, c.f)
			if f != api.OK && len(sum) > 0 {
				t.Errorf("Merge of %v: %v, %d", l, sum, f)
			}
		}
	}
}

// P19.5: what each level keeps.
func TestBy(t *testing.T) {
	l := attribution.Table{entry("a", "1", "x", 1, 2, 1, 0), entry("a", "1", "y", 10, 20, 10, 5), entry("a", "2", "x", 100, 200, 100, 50), entry("b", "2", "x", 0, 1000, 0, 0)}
	for _, c := range []struct {
		level int
		want  attribution.Table
		f     api.Errno
	}{
		{attribution.ByService, attribution.Table{entry("a", "", "", 111, 222, 111, 55), entry("b", "", "", 0, 1000, 0, 0)}, api.OK},
		{attribution.ByVersion, attribution.Table{entry("a", "1", "", 11, 22, 11, 5), entry("a", "2", "", 100, 200, 100, 50), entry("b", "2", "", 0, 1000, 0, 0)}, api.OK},
		{attribution.ByOperation, attribution.Table{entry("a", "", "x", 101, 202, 101, 50), entry("a", "", "y", 10, 20, 10, 5), entry("b", "", "x", 0, 1000, 0, 0)}, api.OK},
		{0, nil, api.ErrKind},
		{4, nil, api.ErrKind},
		{-1, nil, api.ErrKind},
		{math.MinInt, nil, api.ErrKind},
	} {
		got, f := attribution.By(l, c.level)
		expectTable(t, fmt.Sprint("By ", c.level), got, f, c.want, c.f)
		got, f = attribution.By(nil, c.level)
		expectTable(t, fmt.Sprint("By of nothing", c.level), got, f, nil, c.f)
	}
	if attribution.ByService != 1 || attribution.ByVersion != 2 || attribution.ByOperation != 3 || attribution.MaxTotal != 1<<52 {
		t.Error("a constant is wrong")
	}
}

// P19.6: shares are rounded down, however great the times are.
func TestShares(t *testing.T) {
	const most = attribution.MaxTotal
	for _, c := range []struct{ times, parts []int }{
		{nil, nil},
		{[]int{20, 60, 20}, []int{200000, 600000, 200000}},
		{[]int{0, 0}, []int{0, 0}},
		{[]int{0, 7}, []int{0, 1000000}},
		{[]int{1, 1, 1}, []int{333333, 333333, 333333}},
		{[]int{1, 2, 4}, []int{142857, 285714, 571428}},
		{[]int{1, 999999}, []int{1, 999999}},
		{[]int{1, 1000000}, []int{0, 999999}},
		{[]int{most}, []int{1000000}},
		{[]int{most - 1, 1}, []int{999999, 0}},
		{[]int{most / 3, most / 3 * 2}, []int{333333, 666666}},
	} {
		var l attribution.Table
		var want []attribution.Share
		for k, time := range c.times {
			l = append(l, entry(fmt.Sprint("s", k), "1", "x", time, 1, 0, 0))
			want = append(want, attribution.Share{Key: l[k].Key, Parts: c.parts[k]})
		}
		if got := attribution.Shares(l); !slices.Equal(got, want) {
			t.Errorf("Shares of %v: %v, want %v", l, got, want)
		}
	}
}

// P19.6: the greatest times, and of equal ones the least keys.
func TestTop(t *testing.T) {
	a, b, c, d := entry("a", "", "x", 5, 9, 0, 0), entry("b", "", "x", 7, 1, 0, 0), entry("c", "", "x", 5, 1, 0, 0), entry("d", "", "x", 9, 2, 0, 0)
	l := attribution.Table{a, b, c, d}
	for _, x := range []struct {
		n    int
		want attribution.Table
	}{
		{0, nil}, {-1, nil}, {math.MinInt, nil},
		{1, attribution.Table{d}}, {2, attribution.Table{d, b}}, {3, attribution.Table{d, b, a}},
		{4, attribution.Table{d, b, a, c}}, {5, attribution.Table{d, b, a, c}}, {math.MaxInt, attribution.Table{d, b, a, c}},
	} {
		expectTable(t, fmt.Sprint("Top ", x.n), attribution.Top(l, x.n), api.OK, x.want, api.OK)
		expectTable(t, "Top of nothing", attribution.Top(nil, x.n), api.OK, nil, api.OK)
	}
}

// someTable returns a valid table with a few keys.
func someTable(random *rand.Rand) attribution.Table {
	var l attribution.Table
	for _, service := range []string{"a", "b"} {
		for _, version := range []string{"", "1"} {
			for _, operation := range []string{"x", "y", "z"} {
				if random.Intn(2) == 0 {
					continue
				}
				spans := 1 + random.Intn(20)
				errors := random.Intn(spans + 1)
				l = append(l, entry(service, version, operation, random.Intn(1<<random.Intn(45)), spans, errors, random.Intn(errors+1)))
			}
		}
	}
	return l
}

// sumsOf returns the numbers of each key, multiplied by a factor.
func sumsOf(sums map[attribution.Key][4]int, l attribution.Table, factor int) map[attribution.Key][4]int {
	for _, n := range l {
		s := sums[n.Key]
		sums[n.Key] = [4]int{s[0] + factor*n.Time, s[1] + factor*n.Spans, s[2] + factor*n.Errors, s[3] + factor*n.Origins}
	}
	return sums
}

// expectSums compares a table with the numbers of each key.
func expectSums(t *testing.T, what string, got attribution.Table, sums map[attribution.Key][4]int) {
	t.Helper()
	var want attribution.Table
	for key, s := range sums {
		if s != [4]int{} {
			want = append(want, attribution.Entry{Key: key, Time: s[0], Spans: s[1], Errors: s[2], Origins: s[3]})
		}
	}
	slices.SortFunc(want, func(a, b attribution.Entry) int { return attribution.CompareKeys(a.Key, b.Key) })
	expectTable(t, what, got, api.OK, want, api.OK)
}

// P19.4 to P19.7: many tables.
func TestManyTables(t *testing.T) {
	random := rand.New(rand.NewSource(1))
	for range 500 {
		a, b, c := someTable(random), someTable(random), someTable(random)
		ab, f := attribution.Merge(a, b)
		expectErr(t, "Merge", f, api.OK)
		expectErr(t, "Check of a merged table", attribution.Check(ab), api.OK)
		expectSums(t, "Merge", ab, sumsOf(sumsOf(map[attribution.Key][4]int{}, a, 1), b, 1))
		expectSums(t, "Difference", attribution.Difference(a, b), sumsOf(sumsOf(map[attribution.Key][4]int{}, a, 1), b, -1))
		ba, _ := attribution.Merge(b, a)
		bc, _ := attribution.Merge(b, c)
		left, _ := attribution.Merge(ab, c)
		right, _ := attribution.Merge(a, bc)
		if !attribution.Equal(ab, ba) || !attribution.Equal(left, right) {
			t.Errorf("Merge of %v, %v and %v depends on the order", a, b, c)
		}
		expectTable(t, "Difference of a merged table", attribution.Difference(ab, a), api.OK, b, api.OK)
		expectInt(t, "Total", attribution.Total(ab), attribution.Total(a)+attribution.Total(b))
		expectLevels(t, ab)
		expectShares(t, ab)
	}
}

// expectLevels looks at what levels keep.
func expectLevels(t *testing.T, l attribution.Table) {
	t.Helper()
	services, _ := attribution.By(l, attribution.ByService)
	for level := attribution.ByService; level <= attribution.ByOperation; level++ {
		got, f := attribution.By(l, level)
		expectErr(t, "By", f, api.OK)
		expectErr(t, "Check of levels", attribution.Check(got), api.OK)
		expectInt(t, "Total of a level", attribution.Total(got), attribution.Total(l))
		again, f := attribution.By(got, attribution.ByService)
		expectTable(t, "By of By", again, f, services, api.OK)
	}
}

// expectShares divides the products with numbers of any size.
func expectShares(t *testing.T, l attribution.Table) {
	t.Helper()
	total, sum := attribution.Total(l), 0
	for k, s := range attribution.Shares(l) {
		want := big.NewInt(0)
		if total > 0 {
			want.Div(want.Mul(big.NewInt(int64(l[k].Time)), big.NewInt(1000000)), big.NewInt(int64(total)))
		}
		if s.Key != l[k].Key || int64(s.Parts) != want.Int64() {
			t.Errorf("Shares of %v: %v, want %v", l, s, want)
		}
		sum += s.Parts
	}
	if sum > 1000000 {
		t.Errorf("the shares of %v add up to %d", l, sum)
	}
}

// P1: tables that are not valid.
func TestStrangeTables(t *testing.T) {
	strange := []attribution.Table{
		{entry("a", "", "", 0, 0, 0, 0)},
		{entry("b", "", "", 1, 1, 0, 0), entry("a", "", "", -1, 1, 0, 0)},
		{entry("a", "", "", math.MaxInt, math.MaxInt, 0, 0), entry("a", "", "", math.MaxInt, math.MinInt, 0, 0)},
		{entry("a", "", "", math.MinInt, math.MinInt, -1, -1)},
		{entry("a", "", "", math.MinInt, 0, 0, 0), entry("b", "", "", math.MaxInt, 0, 0, 0)},
	}
	for _, a := range strange {
		attribution.Total(a)
		attribution.Shares(a)
		for k := -1; k < 5; k++ {
			attribution.Top(a, k)
			attribution.By(a, k)
		}
		for _, b := range strange {
			attribution.Merge(a, b)
			attribution.Difference(a, b)
		}
	}
}

// Rules: arguments are not modified, and results are new.
func TestTablesIndependent(t *testing.T) {
	given := func() attribution.Table {
		return append(make(attribution.Table, 0, 8), entry("a", "1", "x", 1, 2, 1, 0), entry("a", "2", "x", 5, 2, 1, 0), entry("b", "2", "x", 3, 2, 1, 0))
	}
	a, b := given(), given()
	results := []attribution.Table{attribution.Top(a, 9), attribution.Difference(a, nil)}
	merged, _ := attribution.Merge(a, nil)
	by, _ := attribution.By(a, attribution.ByVersion)
	both, _ := attribution.Merge(a, b)
	results = append(results, merged, by, both, attribution.Difference(a, b))
	attribution.Shares(a)
	for _, l := range results {
		for k := range l {
			l[k] = attribution.Entry{}
		}
	}
	if !slices.Equal(a[:8], given()[:8]) || !slices.Equal(b[:8], given()[:8]) {
		t.Error("an argument was modified")
	}
}
