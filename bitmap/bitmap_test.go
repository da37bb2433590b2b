package bitmap_test

import (
	"math"
	"math/rand"
	"slices"
	"testing"

	"sleuth/api"
	"sleuth/bitmap"
)

const most = bitmap.MaxRow

type run = bitmap.Run

// of returns a set of rows that are known to be right.
func of(t *testing.T, rows ...int) bitmap.Bitmap {
	t.Helper()
	b, e := bitmap.Of(rows...)
	if e != api.OK {
		t.Fatalf("Of(%v): %d", rows, e)
	}
	return b
}

// runsOf computes the runs of rows in increasing order.
func runsOf(rows []int) []run {
	var runs []run
	for i, row := range rows {
		if i > 0 && rows[i-1] == row-1 {
			runs[len(runs)-1].Last = row
		} else {
			runs = append(runs, run{row, row})
		}
	}
	return runs
}

// expectSet compares a set with rows in increasing order, in all ways in which a set can be looked at as a whole.
func expectSet(t *testing.T, what string, b bitmap.Bitmap, rows []int) {
	t.Helper()
	runs := runsOf(rows)
	if !slices.Equal(b.Rows(), rows) || !slices.Equal(b.Runs(), runs) || b.Len() != len(rows) {
		t.Errorf("%s: the rows %v and the runs %v, want %v and %v", what, b.Rows(), b.Runs(), rows, runs)
	}
}

func expectResult(t *testing.T, what string, b bitmap.Bitmap, e api.Errno, rows []int, wantErr api.Errno) {
	t.Helper()
	if e != wantErr {
		t.Errorf("%s: the error %d, want %d", what, e, wantErr)
	}
	expectSet(t, what, b, rows)
	if e != api.OK && !bitmap.Equal(b, bitmap.Bitmap{}) {
		t.Errorf("%s: a set together with an error", what)
	}
}

// selected returns the numbers from 0 to size - 1 that satisfy a condition.
func selected(size int, condition func(int) bool) []int {
	var rows []int
	for n := range size {
		if condition(n) {
			rows = append(rows, n)
		}
	}
	return rows
}

// members returns the rows of the set whose rows are the bits of a number.
func members(bits int) []int {
	return selected(20, func(n int) bool { return bits>>n&1 == 1 })
}

// someRows returns rows in increasing order that lie in a small part of all rows, or far from one another.
func someRows(random *rand.Rand) []int {
	space := []int{10, 40, 300, most}[random.Intn(4)]
	first := random.Intn(most - space + 1)
	var rows []int
	for range random.Intn(60) {
		rows = append(rows, first+random.Intn(space))
	}
	slices.Sort(rows)
	return slices.Compact(rows)
}

// P5.1 and P5.2: the examples of the document.
func TestExamples(t *testing.T) {
	b := of(t, 5, 3, 4, 9)
	if !slices.Equal(b.Runs(), []run{{3, 5}, {9, 9}}) {
		t.Errorf("Runs: %v", b.Runs())
	}
	if form := bitmap.Encode(b); form != "\x81\x02\x81\x03\x81\x03\x81\x03\x81\x01" {
		t.Errorf("Encode: %x", form)
	}
	other, e := bitmap.Not(b, 10)
	if !slices.Equal(other.Runs(), []run{{0, 2}, {6, 8}}) || e != api.OK {
		t.Errorf("Not: %v, %d", other.Runs(), e)
	}
	if b.Rank(9) != 3 {
		t.Errorf("Rank: %d", b.Rank(9))
	}
	if row, is := b.Select(3); row != 9 || !is {
		t.Errorf("Select(3): %d, %v", row, is)
	}
	if row, is := b.Select(4); row != 0 || is {
		t.Errorf("Select(4): %d, %v", row, is)
	}
	if _, e := bitmap.Decode("\x81\x02\x80\x81\x01\x80\x81\x01"); e != api.ErrForm {
		t.Errorf("Decode: %d", e)
	}
}

// P5.1: in any order, each row any number of times.
func TestOf(t *testing.T) {
	if most != 1<<20 {
		t.Error("MaxRow")
	}
	for _, c := range []struct {
		rows []int
		want []int
		e    api.Errno
	}{
		{nil, nil, api.OK},
		{[]int{0}, []int{0}, api.OK},
		{[]int{most - 1}, []int{most - 1}, api.OK},
		{[]int{most - 1, 0, 0, most - 1}, []int{0, most - 1}, api.OK},
		{[]int{2, 1, 0, 2, 4, 4}, []int{0, 1, 2, 4}, api.OK},
		{[]int{most}, nil, api.ErrRange},
		{[]int{-1}, nil, api.ErrRange},
		{[]int{1, 2, most, 3}, nil, api.ErrRange},
		{[]int{1, 2, 3, -1}, nil, api.ErrRange},
		{[]int{math.MinInt, 1}, nil, api.ErrRange},
		{[]int{1, math.MaxInt}, nil, api.ErrRange},
	} {
		b, e := bitmap.Of(c.rows...)
		expectResult(t, "Of", b, e, c.want, c.e)
	}
	random := rand.New(rand.NewSource(1))
	for range 500 {
		rows := someRows(random)
		given := append(slices.Clone(rows), rows[:len(rows)/2]...)
		random.Shuffle(len(given), func(i, j int) { given[i], given[j] = given[j], given[i] })
		kept := slices.Clone(given)
		expectSet(t, "Of", of(t, given...), rows)
		if !slices.Equal(given, kept) {
			t.Fatal("the argument of Of was modified")
		}
	}
}

// P5.1.
func TestFromRuns(t *testing.T) {
	for _, c := range []struct {
		runs []run
		want []int
		e    api.Errno
	}{
		{nil, nil, api.OK},
		{[]run{}, nil, api.OK},
		{[]run{{0, 0}}, []int{0}, api.OK},
		{[]run{{0, 1}, {3, 3}}, []int{0, 1, 3}, api.OK},
		{[]run{{most - 2, most - 1}}, []int{most - 2, most - 1}, api.OK},
		{[]run{{0, 1}, {2, 3}}, nil, api.ErrOrder},
		{[]run{{0, 1}, {1, 3}}, nil, api.ErrOrder},
		{[]run{{0, 5}, {1, 3}}, nil, api.ErrOrder},
		{[]run{{4, 5}, {1, 2}}, nil, api.ErrOrder},
		{[]run{{2, 1}}, nil, api.ErrOrder},
		{[]run{{0, 1}, {5, 4}}, nil, api.ErrOrder},
		{[]run{{-1, 1}}, nil, api.ErrRange},
		{[]run{{0, most}}, nil, api.ErrRange},
		{[]run{{most, 0}}, nil, api.ErrRange},
		{[]run{{5, -1}}, nil, api.ErrRange},
		{[]run{{most, most + 1}}, nil, api.ErrRange},
		{[]run{{math.MinInt, math.MaxInt}}, nil, api.ErrRange},
		{[]run{{0, 1}, {2, most}}, nil, api.ErrRange},
		{[]run{{0, 1}, {2, 3}, {5, most}}, nil, api.ErrOrder},
		{[]run{{0, 1}, {5, most}, {2, 1}}, nil, api.ErrRange},
	} {
		b, e := bitmap.FromRuns(c.runs)
		expectResult(t, "FromRuns", b, e, c.want, c.e)
	}
	random := rand.New(rand.NewSource(2))
	for range 500 {
		rows := someRows(random)
		b, e := bitmap.FromRuns(runsOf(rows))
		expectResult(t, "FromRuns", b, e, rows, api.OK)
	}
}

// P5.1.
func TestRange(t *testing.T) {
	for _, c := range []struct {
		from, to int
		want     []int
		e        api.Errno
	}{
		{0, 0, nil, api.OK},
		{0, 1, []int{0}, api.OK},
		{3, 6, []int{3, 4, 5}, api.OK},
		{6, 6, nil, api.OK},
		{6, 3, nil, api.OK},
		{most, 0, nil, api.OK},
		{most, most, nil, api.OK},
		{most - 1, most, []int{most - 1}, api.OK},
		{0, most, selected(most, func(int) bool { return true }), api.OK},
		{-1, 5, nil, api.ErrRange},
		{5, -1, nil, api.ErrRange},
		{0, most + 1, nil, api.ErrRange},
		{most + 1, 0, nil, api.ErrRange},
		{math.MinInt, math.MaxInt, nil, api.ErrRange},
	} {
		b, e := bitmap.Range(c.from, c.to)
		if e != c.e || b.Len() != len(c.want) || !slices.Equal(b.Rows(), c.want) || len(b.Runs()) != min(len(c.want), 1) {
			t.Errorf("Range(%d, %d): %v, %d", c.from, c.to, b.Runs(), e)
		}
	}
}

// expectRows compares Contains, Rank and Select with rows in increasing order.
func expectRows(t *testing.T, b bitmap.Bitmap, rows []int) {
	t.Helper()
	numbers := []int{math.MinInt, -1, 0, most - 1, most, math.MaxInt}
	for _, row := range rows {
		numbers = append(numbers, row-1, row, row+1)
	}
	for _, n := range numbers {
		rank, is := slices.BinarySearch(rows, n)
		if b.Contains(n) != is || b.Rank(n) != rank {
			t.Errorf("%v: Contains(%d) is %v, Rank is %d", rows, n, b.Contains(n), b.Rank(n))
		}
	}
	for k, row := range rows {
		if got, is := b.Select(k); got != row || !is {
			t.Errorf("%v: Select(%d) is %d, %v", rows, k, got, is)
		}
	}
	for _, k := range []int{-1, len(rows), len(rows) + 1, math.MinInt, math.MaxInt} {
		if got, is := b.Select(k); got != 0 || is {
			t.Errorf("%v: Select(%d) is %d, %v", rows, k, got, is)
		}
	}
}

// P5.2 and P5.6, for all small sets and many others.
func TestRows(t *testing.T) {
	expectRows(t, bitmap.Bitmap{}, nil)
	for bits := range 1 << 9 {
		expectRows(t, of(t, members(bits)...), members(bits))
	}
	random := rand.New(rand.NewSource(3))
	for range 300 {
		rows := someRows(random)
		b := of(t, rows...)
		expectRows(t, b, rows)
		for k := range rows {
			if row, _ := b.Select(k); b.Rank(row) != k {
				t.Errorf("Rank(Select(%d)) is %d", k, b.Rank(row))
			}
		}
		for _, row := range rows {
			if got, is := b.Select(b.Rank(row)); got != row || !is {
				t.Errorf("Select(Rank(%d)) is %d, %v", row, got, is)
			}
		}
	}
}

// P1: whatever the arguments are, nothing panics, and together with an error or false there are zero values.
func TestGarbage(t *testing.T) {
	random := rand.New(rand.NewSource(4))
	numbers := []int{0, 1, 2, 3, 4, 5, -1, most - 1, most, most + 1, math.MinInt, math.MinInt + 1, math.MaxInt, math.MaxInt - 1}
	number := func() int { return numbers[random.Intn(len(numbers))] }
	checked := func(b bitmap.Bitmap, e api.Errno) bitmap.Bitmap {
		if e != api.OK && (b.Len() != 0 || len(b.Runs()) != 0) {
			t.Errorf("a set together with the error %d", e)
		}
		return b
	}
	for range 20000 {
		var rows []int
		var runs []run
		for range random.Intn(4) {
			rows = append(rows, number())
			runs = append(runs, run{number(), number()})
		}
		a, b, n := checked(bitmap.FromRuns(runs)), checked(bitmap.Of(rows...)), number()
		if bitmap.Equal(a, bitmap.Bitmap{}) {
			a = checked(bitmap.Range(n, number()))
		}
		a.Contains(n)
		a.Rank(n)
		if row, is := a.Select(n); !is && row != 0 {
			t.Errorf("Select(%d): %d and false", n, row)
		}
		checked(a.Add(n))
		bitmap.And(a, b)
		bitmap.Or(a, b)
		bitmap.AndNot(a, b)
		bitmap.Equal(a, b)
		bitmap.Subset(a, b)
		checked(bitmap.Not(a, n))
		checked(bitmap.Shift(a, n))
		checked(bitmap.Decode(bitmap.Encode(a)))
	}
}
