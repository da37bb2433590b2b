package column_test

import (
	"fmt"
	"math"
	"math/rand"
	"slices"
	"testing"

	"sleuth/api"
	"sleuth/column"
)

const (
	mostRows = column.MaxRows
	most     = column.MaxValue
)

// of returns a column of values that are known to be right.
func of(t *testing.T, values ...int) *column.Column {
	t.Helper()
	c, e := column.New(values)
	if e != api.OK || c == nil {
		t.Fatalf("New(%v): %d", values, e)
	}
	return c
}

func expectInts(t *testing.T, what string, got []int, e api.Errno, want []int, wantErr api.Errno) {
	t.Helper()
	if !slices.Equal(got, want) || e != wantErr {
		t.Errorf("%s: %v, %d; want %v, %d", what, got, e, want, wantErr)
	}
}

// expectColumn compares a column with its values, in all ways in which it can be looked at as a whole.
func expectColumn(t *testing.T, what string, c *column.Column, e api.Errno, values []int, wantErr api.Errno) {
	t.Helper()
	if e != wantErr || (c == nil) != (wantErr != api.OK) {
		t.Errorf("%s: a column: %v, %d; want the error %d", what, c != nil, e, wantErr)
		return
	}
	if !slices.Equal(c.Values(), values) || c.Len() != len(values) {
		t.Errorf("%s: %d values %v, want %v", what, c.Len(), c.Values(), values)
	}
}

// someValues returns values of one of several kinds: similar, far from one another, increasing, repeated, or at the limits.
func someValues(random *rand.Rand) []int {
	var values []int
	kind, first := random.Intn(6), random.Intn(2*most)-most
	for i := range random.Intn(40) {
		v := 0
		switch kind {
		case 0:
			v = random.Intn(5) - 2
		case 1:
			v = first/2 + random.Intn(1<<random.Intn(40))
		case 2:
			v = first/2 + i*1000 + random.Intn(3)
		case 3:
			v = first/2 + i/10
		case 4:
			v = random.Intn(2*most+1) - most
		case 5:
			v = []int{-most, most, 0, most - 1}[random.Intn(4)]
		}
		values = append(values, v)
	}
	return values
}

// numbered returns so many values, from 0 on.
func numbered(size int) []int {
	values := make([]int, size)
	for i := range values {
		values[i] = i
	}
	return values
}

// P7.1: the constants and the errors of New.
func TestNew(t *testing.T) {
	if mostRows != 4096 || most != 1<<60 || column.Plain != 1 || column.Delta != 2 || column.RunLength != 3 || column.Packed != 4 {
		t.Error("a constant is wrong")
	}
	for _, c := range []struct {
		values []int
		e      api.Errno
	}{
		{nil, api.OK},
		{[]int{}, api.OK},
		{[]int{0}, api.OK},
		{[]int{-most, most}, api.OK},
		{numbered(mostRows), api.OK},
		{numbered(mostRows + 1), api.ErrLimit},
		{append(numbered(mostRows), most+1), api.ErrLimit},
		{[]int{most + 1}, api.ErrRange},
		{[]int{-most - 1}, api.ErrRange},
		{[]int{1, 2, math.MaxInt}, api.ErrRange},
		{[]int{math.MinInt, 1, 2}, api.ErrRange},
	} {
		given := slices.Clone(c.values)
		got, e := column.New(c.values)
		want := c.values
		if c.e != api.OK {
			want = nil
		}
		expectColumn(t, "New", got, e, want, c.e)
		if !slices.Equal(c.values, given) {
			t.Error("the argument of New was modified")
		}
	}
}

// P7.3.
func TestRows(t *testing.T) {
	random := rand.New(rand.NewSource(1))
	for range 300 {
		values := someValues(random)
		c := of(t, values...)
		expectColumn(t, "New", c, api.OK, values, api.OK)
		for row, want := range values {
			if v, is := c.At(row); v != want || !is {
				t.Errorf("%v: At(%d) is %d, %v", values, row, v, is)
			}
		}
		for _, row := range []int{-1, len(values), len(values) + 1, math.MinInt, math.MaxInt} {
			if v, is := c.At(row); v != 0 || is {
				t.Errorf("%v: At(%d) is %d, %v", values, row, v, is)
			}
		}
	}
}

// P7.3: in the order of the list, each row any number of times.
func TestSelect(t *testing.T) {
	for _, c := range []struct {
		values, rows, want []int
		e                  api.Errno
	}{
		{nil, nil, nil, api.OK},
		{[]int{7}, nil, nil, api.OK},
		{[]int{7, 8, 9}, []int{2, 0, 2, 2, 1}, []int{9, 7, 9, 9, 8}, api.OK},
		{nil, []int{0}, nil, api.ErrRange},
		{[]int{7, 8}, []int{2}, nil, api.ErrRange},
		{[]int{7, 8}, []int{-1}, nil, api.ErrRange},
		{[]int{7, 8}, []int{0, 1, 2, 0}, nil, api.ErrRange},
		{[]int{7, 8}, []int{math.MinInt, 0}, nil, api.ErrRange},
		{[]int{7, 8}, []int{0, math.MaxInt}, nil, api.ErrRange},
	} {
		got, e := of(t, c.values...).Select(c.rows)
		expectInts(t, fmt.Sprintf("Select(%v) of %v", c.rows, c.values), got, e, c.want, c.e)
	}
}

// P7.4 and P7.6.
func TestZoneAndWhere(t *testing.T) {
	random := rand.New(rand.NewSource(2))
	if zone, is := of(t).Zone(); zone != (column.Zone{}) || is {
		t.Errorf("Zone of no values: %v, %v", zone, is)
	}
	for range 300 {
		values := someValues(random)
		c := of(t, values...)
		zone, is := c.Zone()
		if is != (len(values) > 0) {
			t.Errorf("%v: Zone is %v, %v", values, zone, is)
		}
		if is && (zone.Least != slices.Min(values) || zone.Greatest != slices.Max(values)) {
			t.Errorf("%v: Zone is %v", values, zone)
		}
		limits := append(slices.Clone(values), math.MinInt, math.MaxInt, 0, zone.Least-1, zone.Greatest+1)
		for range 20 {
			low, high := limits[random.Intn(len(limits))], limits[random.Intn(len(limits))]
			var want []int
			for row, v := range values {
				if low <= v && v <= high {
					want = append(want, row)
				}
			}
			expectInts(t, fmt.Sprintf("%v: Where(%d, %d)", values, low, high), c.Where(low, high), api.OK, want, api.OK)
		}
		outside := append(c.Where(zone.Greatest+1, math.MaxInt), c.Where(math.MinInt, zone.Least-1)...)
		if len(outside) > 0 {
			t.Errorf("%v: the rows %v are outside of the zone", values, outside)
		}
	}
	c := of(t, 4, 2, 6, 2, 4)
	expectInts(t, "Where(2, 4)", c.Where(2, 4), api.OK, []int{0, 1, 3, 4}, api.OK)
	expectInts(t, "Where(2, 2)", c.Where(2, 2), api.OK, []int{1, 3}, api.OK)
	expectInts(t, "Where(4, 2)", c.Where(4, 2), api.OK, nil, api.OK)
}

// P7.5.
func TestSlice(t *testing.T) {
	for _, c := range []struct {
		values   []int
		from, to int
		want     []int
		e        api.Errno
	}{
		{nil, 0, 0, nil, api.OK},
		{nil, 0, 1, nil, api.ErrRange},
		{[]int{5, 6, 7}, 0, 3, []int{5, 6, 7}, api.OK},
		{[]int{5, 6, 7}, 1, 2, []int{6}, api.OK},
		{[]int{5, 6, 7}, 1, 3, []int{6, 7}, api.OK},
		{[]int{5, 6, 7}, 0, 0, nil, api.OK},
		{[]int{5, 6, 7}, 2, 2, nil, api.OK},
		{[]int{5, 6, 7}, 3, 3, nil, api.OK},
		{[]int{5, 6, 7}, 2, 1, nil, api.ErrRange},
		{[]int{5, 6, 7}, -1, 2, nil, api.ErrRange},
		{[]int{5, 6, 7}, -2, -1, nil, api.ErrRange},
		{[]int{5, 6, 7}, 0, 4, nil, api.ErrRange},
		{[]int{5, 6, 7}, 4, 4, nil, api.ErrRange},
		{[]int{5, 6, 7}, math.MinInt, math.MaxInt, nil, api.ErrRange},
		{[]int{5, 6, 7}, math.MaxInt, math.MinInt, nil, api.ErrRange},
	} {
		got, e := of(t, c.values...).Slice(c.from, c.to)
		expectColumn(t, fmt.Sprintf("Slice(%d, %d) of %v", c.from, c.to, c.values), got, e, c.want, c.e)
	}
}

// P7.5 and P7.6: slices appended to one another give the column, and the zone of an appended column is the least one around both.
func TestAppend(t *testing.T) {
	random := rand.New(rand.NewSource(3))
	for range 500 {
		values := someValues(random)
		c := of(t, values...)
		at := random.Intn(len(values) + 1)
		a, e1 := c.Slice(0, at)
		b, e2 := c.Slice(at, len(values))
		expectColumn(t, "Slice", a, e1, values[:at], api.OK)
		expectColumn(t, "Slice", b, e2, values[at:], api.OK)
		both, e := a.Append(b)
		expectColumn(t, "Append", both, e, values, api.OK)
		if !both.Equal(c) || both.Encode() != c.Encode() {
			t.Errorf("%v: the slices do not give the column", values)
		}
		zoneA, isA := a.Zone()
		zoneB, isB := b.Zone()
		want := zoneA
		if isB {
			want = zoneB
		}
		if isA && isB {
			want = column.Zone{Least: min(zoneA.Least, zoneB.Least), Greatest: max(zoneA.Greatest, zoneB.Greatest)}
		}
		if zone, is := both.Zone(); zone != want || is != (isA || isB) {
			t.Errorf("%v: the zone is %v, %v; want %v", values, zone, is, want)
		}
		expectColumn(t, "Append changed", a, api.OK, values[:at], api.OK)
		twice, e := c.Append(c)
		expectColumn(t, "Append of the column", twice, e, append(slices.Clone(values), values...), api.OK)
	}
}

// P7.5: the errors of Append.
func TestAppendErrors(t *testing.T) {
	full, half := of(t, numbered(mostRows)...), of(t, numbered(mostRows/2)...)
	for _, c := range []struct {
		a, b *column.Column
		want int
		e    api.Errno
	}{
		{full, of(t), mostRows, api.OK},
		{of(t), full, mostRows, api.OK},
		{half, half, mostRows, api.OK},
		{full, of(t, 1), 0, api.ErrLimit},
		{of(t, 1), full, 0, api.ErrLimit},
		{full, full, 0, api.ErrLimit},
		{full, nil, 0, api.ErrArgument},
		{of(t), nil, 0, api.ErrArgument},
		{nil, full, 0, api.ErrArgument},
		{nil, nil, 0, api.ErrArgument},
	} {
		got, e := c.a.Append(c.b)
		if e != c.e || (got == nil) != (e != api.OK) || got.Len() != c.want {
			t.Errorf("Append: %d rows, %d; want %d, %d", got.Len(), e, c.want, c.e)
		}
	}
}

// P7.5.
func TestEqual(t *testing.T) {
	lists := [][]int{nil, {0}, {1}, {0, 0}, {0, 1}, {1, 0}, {0, 1, 2}, {most}, {-most}}
	for i, a := range lists {
		for j, b := range lists {
			if of(t, a...).Equal(of(t, b...)) != (i == j) {
				t.Errorf("Equal of %v and %v: %v", a, b, i != j)
			}
		}
		if of(t, a...).Equal(nil) || (*column.Column)(nil).Equal(of(t, a...)) {
			t.Errorf("%v is equal to a nil column", a)
		}
	}
	if !(*column.Column)(nil).Equal(nil) {
		t.Error("two nil columns are not equal")
	}
}

// The contract of methods of a nil column.
func TestNil(t *testing.T) {
	var c *column.Column
	if c.Encode() != "" || c.Kind() != 0 || c.Len() != 0 || c.Values() != nil || c.Where(math.MinInt, math.MaxInt) != nil {
		t.Error("a method of a nil column returns something")
	}
	if v, is := c.At(0); v != 0 || is {
		t.Errorf("At: %d, %v", v, is)
	}
	if zone, is := c.Zone(); zone != (column.Zone{}) || is {
		t.Errorf("Zone: %v, %v", zone, is)
	}
	for _, rows := range [][]int{nil, {0}, {-1}} {
		selected, e := c.Select(rows)
		expectInts(t, "Select", selected, e, nil, api.ErrArgument)
	}
	for _, to := range []int{0, 1, -1} {
		slice, e := c.Slice(0, to)
		expectColumn(t, "Slice", slice, e, nil, api.ErrArgument)
	}
}

// A column that nobody has made is one without rows.
func TestZeroColumn(t *testing.T) {
	c, empty := new(column.Column), of(t)
	if c.Encode() != empty.Encode() || c.Kind() != empty.Kind() || !c.Equal(empty) || !empty.Equal(c) {
		t.Error("the zero column is not empty")
	}
}

// The rules that columns never change, and that results are newly allocated.
func TestColumnsNeverChange(t *testing.T) {
	given := []int{1, 2, 3}
	c := of(t, given...)
	whole, _ := c.Slice(0, 3)
	both, _ := c.Append(of(t))
	given[0] = 9
	c.Values()[1] = 9
	selected, _ := c.Select([]int{0, 1, 2})
	selected[2] = 9
	for _, kept := range []*column.Column{c, whole, both} {
		expectColumn(t, "a column", kept, api.OK, []int{1, 2, 3}, api.OK)
		if kept.Encode() != formOf(1, 3, 1, 2, 3) {
			t.Errorf("Encode: %x", kept.Encode())
		}
	}
	part, _ := c.Slice(0, 1)
	longer, _ := part.Append(of(t, 7, 7))
	expectColumn(t, "a column", c, api.OK, []int{1, 2, 3}, api.OK)
	expectColumn(t, "a longer column", longer, api.OK, []int{1, 7, 7}, api.OK)
}
