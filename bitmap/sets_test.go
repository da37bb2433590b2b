package bitmap_test

import (
	"math"
	"math/rand"
	"slices"
	"testing"

	"sleuth/api"
	"sleuth/bitmap"
)

// expectOperations compares the operations on two sets with rows.
func expectOperations(t *testing.T, rowsA, rowsB []int) {
	t.Helper()
	a, b := of(t, rowsA...), of(t, rowsB...)
	inB := func(row int) bool { _, is := slices.BinarySearch(rowsB, row); return is }
	common := slices.DeleteFunc(slices.Clone(rowsA), func(row int) bool { return !inB(row) })
	rest := slices.DeleteFunc(slices.Clone(rowsA), inB)
	all := slices.Concat(rest, rowsB)
	slices.Sort(all)
	expectSet(t, "And", bitmap.And(a, b), common)
	expectSet(t, "Or", bitmap.Or(a, b), all)
	expectSet(t, "AndNot", bitmap.AndNot(a, b), rest)
	if bitmap.Equal(a, b) != slices.Equal(rowsA, rowsB) {
		t.Errorf("Equal(%v, %v)", rowsA, rowsB)
	}
	if bitmap.Subset(a, b) != (len(rest) == 0) {
		t.Errorf("Subset(%v, %v)", rowsA, rowsB)
	}
	if (bitmap.Encode(a) == bitmap.Encode(b)) != bitmap.Equal(a, b) {
		t.Errorf("the forms of %v and %v", rowsA, rowsB)
	}
	expectSet(t, "the first argument", a, rowsA)
	expectSet(t, "the second argument", b, rowsB)
}

// P5.3, P5.4 and P5.6, for all pairs of small sets.
func TestOperationsOnSmallSets(t *testing.T) {
	for x := range 1 << 6 {
		for y := range 1 << 6 {
			expectOperations(t, members(x), members(y))
		}
	}
}

// P5.3, P5.4 and P5.6, for sets that begin at 0 or end at the last row among them.
func TestOperationsOnOtherSets(t *testing.T) {
	random := rand.New(rand.NewSource(5))
	edge := []int{0, 1, most - 2, most - 1}
	for range 1000 {
		a, b := someRows(random), someRows(random)
		if random.Intn(2) == 0 {
			b = slices.Concat(b, a[:len(a)/2])
		}
		if random.Intn(3) == 0 {
			a, b = slices.Concat(a, edge), slices.Concat(b, edge[1:])
		}
		slices.Sort(a)
		slices.Sort(b)
		expectOperations(t, slices.Compact(a), slices.Compact(b))
	}
	for _, rows := range [][]int{nil, {0}, {most - 1}, {0, most - 1}} {
		expectOperations(t, rows, nil)
		expectOperations(t, nil, rows)
		expectOperations(t, rows, []int{most - 1})
		expectOperations(t, rows, []int{0})
	}
}

// P5.3.
func TestAdd(t *testing.T) {
	for bits := range 1 << 7 {
		for row := range 9 {
			b := of(t, members(bits)...)
			more, e := b.Add(row)
			expectResult(t, "Add", more, e, members(bits|1<<row), api.OK)
			expectSet(t, "the set to which a row was added", b, members(bits))
		}
	}
	b := of(t, 0)
	last, e := b.Add(most - 1)
	expectResult(t, "Add", last, e, []int{0, most - 1}, api.OK)
	for _, row := range []int{-1, most, math.MinInt, math.MaxInt} {
		more, e := b.Add(row)
		expectResult(t, "Add", more, e, nil, api.ErrRange)
	}
}

// P5.3: rows from the size on are left out.
func TestNot(t *testing.T) {
	for bits := range 1 << 7 {
		for size := range 9 {
			rest, e := bitmap.Not(of(t, members(bits)...), size)
			expectResult(t, "Not", rest, e, selected(size, func(n int) bool { return bits>>n&1 == 0 }), api.OK)
		}
	}
	for _, size := range []int{-1, most + 1, math.MinInt, math.MaxInt} {
		rest, e := bitmap.Not(of(t, 1, 2), size)
		expectResult(t, "Not", rest, e, nil, api.ErrRange)
		rest, e = bitmap.Not(bitmap.Bitmap{}, size)
		expectResult(t, "Not", rest, e, nil, api.ErrRange)
	}
	rest, e := bitmap.Not(of(t, 0, 5, most-1), most)
	if !slices.Equal(rest.Runs(), []run{{1, 4}, {6, most - 2}}) || e != api.OK {
		t.Errorf("Not: %v, %d", rest.Runs(), e)
	}
}

// P5.3.
func TestShift(t *testing.T) {
	for _, c := range []struct {
		rows []int
		by   int
		want []int
		e    api.Errno
	}{
		{[]int{3, 4, 9}, 0, []int{3, 4, 9}, api.OK},
		{[]int{3, 4, 9}, 5, []int{8, 9, 14}, api.OK},
		{[]int{3, 4, 9}, -3, []int{0, 1, 6}, api.OK},
		{[]int{3, 4, 9}, -4, nil, api.ErrRange},
		{[]int{3, 4, 9}, most - 10, []int{most - 7, most - 6, most - 1}, api.OK},
		{[]int{3, 4, 9}, most - 9, nil, api.ErrRange},
		{[]int{3, 4, 9}, most - 3, nil, api.ErrRange},
		{[]int{3, 4, 9}, -9, nil, api.ErrRange},
		{[]int{0, 9}, -1, nil, api.ErrRange},
		{[]int{0}, most - 1, []int{most - 1}, api.OK},
		{[]int{0}, most, nil, api.ErrRange},
		{[]int{most - 1}, 1 - most, []int{0}, api.OK},
		{[]int{most - 1}, -most, nil, api.ErrRange},
		{[]int{most - 1}, 1, nil, api.ErrRange},
		{[]int{3}, math.MaxInt, nil, api.ErrRange},
		{[]int{3}, math.MinInt, nil, api.ErrRange},
		{nil, 5, nil, api.OK},
		{nil, most, nil, api.OK},
		{nil, math.MaxInt, nil, api.OK},
		{nil, math.MinInt, nil, api.OK},
	} {
		b := of(t, c.rows...)
		shifted, e := bitmap.Shift(b, c.by)
		expectResult(t, "Shift", shifted, e, c.want, c.e)
		expectSet(t, "the set that was shifted", b, c.rows)
	}
}

// P5.6: the laws of sets.
func TestLaws(t *testing.T) {
	random := rand.New(rand.NewSource(6))
	expectEqual := func(law string, a, b bitmap.Bitmap) {
		t.Helper()
		if !bitmap.Equal(a, b) {
			t.Errorf("%s: %v and %v", law, a.Runs(), b.Runs())
		}
	}
	not := func(b bitmap.Bitmap) bitmap.Bitmap {
		rest, e := bitmap.Not(b, most)
		if e != api.OK {
			t.Fatalf("Not: %d", e)
		}
		return rest
	}
	for range 500 {
		a, b, c := of(t, someRows(random)...), of(t, someRows(random)...), of(t, someRows(random)...)
		expectEqual("commutative", bitmap.And(a, b), bitmap.And(b, a))
		expectEqual("commutative", bitmap.Or(a, b), bitmap.Or(b, a))
		expectEqual("associative", bitmap.And(a, bitmap.And(b, c)), bitmap.And(bitmap.And(a, b), c))
		expectEqual("associative", bitmap.Or(a, bitmap.Or(b, c)), bitmap.Or(bitmap.Or(a, b), c))
		expectEqual("distributive", bitmap.And(a, bitmap.Or(b, c)), bitmap.Or(bitmap.And(a, b), bitmap.And(a, c)))
		expectEqual("distributive", bitmap.Or(a, bitmap.And(b, c)), bitmap.And(bitmap.Or(a, b), bitmap.Or(a, c)))
		expectEqual("complement of a union", not(bitmap.Or(a, b)), bitmap.And(not(a), not(b)))
		expectEqual("complement of an intersection", not(bitmap.And(a, b)), bitmap.Or(not(a), not(b)))
		expectEqual("complement of a complement", not(not(a)), a)
		expectEqual("difference", bitmap.AndNot(a, b), bitmap.And(a, not(b)))
		expectEqual("a set and itself", bitmap.AndNot(a, a), bitmap.Bitmap{})
		if a.Len()+b.Len() != bitmap.And(a, b).Len()+bitmap.Or(a, b).Len() {
			t.Error("the numbers of rows of the intersection and the union")
		}
		if !bitmap.Subset(bitmap.And(a, b), a) || !bitmap.Subset(a, bitmap.Or(a, b)) || bitmap.Subset(a, b) != bitmap.Equal(bitmap.And(a, b), a) {
			t.Error("Subset")
		}
	}
}

// The rules that arguments are neither modified nor retained, and that results are newly allocated.
func TestResultsAreNew(t *testing.T) {
	rows := []int{9, 3, 4, 5}
	b := of(t, rows...)
	rows[0], rows[1] = 70, 71
	expectSet(t, "Of, when its argument is changed", b, []int{3, 4, 5, 9})
	runs := []run{{3, 5}, {9, 9}}
	b, _ = bitmap.FromRuns(runs)
	runs[0].First = 0
	expectSet(t, "FromRuns, when its argument is changed", b, []int{3, 4, 5, 9})
	b.Runs()[0].First = 0
	b.Rows()[0] = 0
	_ = append(b.Runs()[:1], run{7, 7})
	expectSet(t, "a set of which lists are changed", b, []int{3, 4, 5, 9})
	more, _ := b.Add(11)
	other, _ := b.Add(10)
	expectSet(t, "Add", more, []int{3, 4, 5, 9, 11})
	expectSet(t, "Add", other, []int{3, 4, 5, 9, 10})
	expectSet(t, "the set to which rows were added", b, []int{3, 4, 5, 9})
}
