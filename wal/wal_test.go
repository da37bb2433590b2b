package wal_test

import (
	"fmt"
	"math"
	"slices"
	"strings"
	"testing"

	"sleuth/api"
	"sleuth/disk"
	"sleuth/wal"
)

// made returns a disk with a capacity.
func made(t *testing.T, capacity int) *disk.Disk {
	t.Helper()
	d, e := disk.New(capacity)
	expectErr(t, fmt.Sprint("New of ", capacity), e, api.OK)
	return d
}

// opened returns a log.
func opened(t *testing.T, d *disk.Disk, name string) *wal.Log {
	t.Helper()
	l, e := wal.Open(d, name)
	if e != api.OK || l == nil {
		t.Fatalf("Open of %q: %v, %d", name, l, e)
	}
	return l
}

// committed commits records together, and expects that they get the next numbers.
func committed(t *testing.T, l *wal.Log, records ...string) {
	t.Helper()
	waiting(t, l, records...)
	want := l.Last() + l.Pending()
	last, e := l.Commit()
	expectErr(t, "Commit", e, api.OK)
	if last != want || l.Pending() != 0 {
		t.Errorf("Commit: %d, and %d records wait; want %d", last, l.Pending(), want)
	}
}

// waiting appends records, and expects that they will have the next numbers.
func waiting(t *testing.T, l *wal.Log, records ...string) {
	t.Helper()
	for _, record := range records {
		want := l.Last() + l.Pending() + 1
		number, e := l.Append(record)
		expectErr(t, "Append", e, api.OK)
		if number != want {
			t.Errorf("Append: %d, want %d", number, want)
		}
	}
}

// expectErr expects an error.
func expectErr(t *testing.T, what string, got, want api.Errno) {
	t.Helper()
	if got != want {
		t.Errorf("%s: the error %d, want %d", what, got, want)
	}
}

// expectRecords expects that a log has records, the first of which has a number.
func expectRecords(t *testing.T, l *wal.Log, first int, want ...string) {
	t.Helper()
	if l.First() != first || l.Last() != first+len(want)-1 {
		t.Errorf("the records from %d to %d, want %d from %d on", l.First(), l.Last(), len(want), first)
		return
	}
	got, e := l.Replay(first)
	if e != api.OK || !slices.Equal(got, want) {
		t.Errorf("Replay: %q, %d; want %q", got, e, want)
	}
	for i, record := range want {
		if got, e := l.Read(first + i); got != record || e != api.OK {
			t.Errorf("Read of %d: %q, %d; want %q", first+i, got, e, record)
		}
	}
}

// expectSegments expects the segments of a log, by their numbers.
func expectSegments(t *testing.T, l *wal.Log, name string, numbers ...int) {
	t.Helper()
	var want []string
	for _, n := range numbers {
		want = append(want, fmt.Sprintf("%s.%06d", name, n))
	}
	if got := l.Segments(); !slices.Equal(got, want) {
		t.Errorf("Segments: %v, want %v", got, want)
	}
}

// expectSame expects that a disk is as it was.
func expectSame(t *testing.T, what string, d, before *disk.Disk) {
	t.Helper()
	if !d.Equal(before) {
		t.Errorf("%s has changed the disk", what)
	}
}

// numbered returns so many records that differ.
func numbered(first, n int) []string {
	var l []string
	for i := range n {
		l = append(l, fmt.Sprint("record ", first+i))
	}
	return l
}

// The limits of the document.
func TestLimits(t *testing.T) {
	if wal.MaxName != 48 || wal.MaxRecord != 1<<16 || wal.MaxPending != 256 || wal.MaxSegments != 999999 || wal.SegmentGroups != 8 {
		t.Error("the limits are others")
	}
}

// The example of the document.
func TestExample(t *testing.T) {
	d := made(t, 1000)
	l := opened(t, d, "log")
	committed(t, l, "a", "b")
	expectRecords(t, l, 1, "a", "b")
	expectSegments(t, l, "log", 1)
	waiting(t, l, "c")
	l = opened(t, d, "log")
	expectRecords(t, l, 1, "a", "b")
	committed(t, l, "d")
	expectRecords(t, l, 1, "a", "b", "d")
	expectSegments(t, l, "log", 1, 2)
	expectErr(t, "Truncate", l.Truncate(1), api.OK)
	expectRecords(t, l, 1, "a", "b", "d")
	expectErr(t, "Truncate", l.Truncate(2), api.OK)
	expectRecords(t, l, 3, "d")
	expectSegments(t, l, "log", 2)
	if !slices.Equal(d.List(), []string{"log.000002"}) {
		t.Errorf("the files: %v", d.List())
	}
}

// P27.1: a new log has no records, and Open writes nothing.
func TestOpen(t *testing.T) {
	d := made(t, 1000)
	before := d.Clone()
	l := opened(t, d, "log")
	expectRecords(t, l, 1)
	expectSegments(t, l, "log")
	if l.Pending() != 0 {
		t.Errorf("Pending: %d", l.Pending())
	}
	expectSame(t, "Open", d, before)
	committed(t, l, "a", "", "\x00\xff")
	committed(t, l, "b")
	waiting(t, l, "c")
	before = d.Clone()
	// An operation would end in a failure.
	d.Limit(0)
	before.Limit(0)
	l = opened(t, d, "log")
	expectRecords(t, l, 1, "a", "", "\x00\xff", "b")
	expectSegments(t, l, "log", 1)
	if l.Pending() != 0 {
		t.Errorf("Pending: %d", l.Pending())
	}
	expectSame(t, "Open", d, before)
}

// P27.1: the errors, in their order.
func TestOpenErrors(t *testing.T) {
	up, down := made(t, 1000), made(t, 1000)
	down.Crash()
	most := strings.Repeat("x", 48)
	for _, c := range []struct {
		d    *disk.Disk
		name string
		want api.Errno
	}{
		{nil, "log", api.ErrArgument},
		{nil, "", api.ErrArgument},
		{up, "", api.ErrName},
		{up, "a b", api.ErrName},
		{up, "a\x7f", api.ErrName},
		{up, "é", api.ErrName},
		{up, most + "x", api.ErrName},
		{up, strings.Repeat("x", 65), api.ErrName},
		{down, most + "x", api.ErrName},
		{down, "", api.ErrName},
		{down, "log", api.ErrCrash},
		{down, most, api.ErrCrash},
		{up, most, api.OK},
		{up, "!", api.OK},
		{up, "~.000001", api.OK},
	} {
		l, e := wal.Open(c.d, c.name)
		expectErr(t, fmt.Sprintf("Open of %q", c.name), e, c.want)
		if (l != nil) != (c.want == api.OK) {
			t.Errorf("Open of %q: %v with the error %d", c.name, l, e)
		}
	}
	if len(up.List()) != 0 || !down.Down() {
		t.Error("Open has changed a disk")
	}
	l := opened(t, up, most)
	committed(t, l, "a")
	expectSegments(t, l, most, 1)
	expectRecords(t, opened(t, up, most), 1, "a")
}

// P27.1: segments whose records do not follow one another.
func TestGaps(t *testing.T) {
	begin := func() *disk.Disk {
		d := made(t, 10000)
		for k := range 4 {
			committed(t, opened(t, d, "log"), numbered(2*k+1, 2)...)
		}
		return d
	}
	for _, c := range []struct {
		what  string
		first int
		count int // 0: a gap
		do    func(d *disk.Disk)
	}{
		{"nothing", 1, 8, func(d *disk.Disk) {}},
		{"the first one is removed", 3, 6, func(d *disk.Disk) { d.Remove("log.000001") }},
		{"the last one is removed", 1, 6, func(d *disk.Disk) { d.Remove("log.000004") }},
		{"the second one is removed", 0, 0, func(d *disk.Disk) { d.Remove("log.000002") }},
		{"the third one is removed", 0, 0, func(d *disk.Disk) { d.Remove("log.000003") }},
		{"both of them are removed", 0, 0, func(d *disk.Disk) { d.Remove("log.000002"); d.Remove("log.000003") }},
		{"the first two are removed", 5, 4, func(d *disk.Disk) { d.Remove("log.000001"); d.Remove("log.000002") }},
		{"the first one is behind the last one", 0, 0, func(d *disk.Disk) { d.Rename("log.000001", "log.000005") }},
		{"the last one is alone, and has another number", 7, 2, func(d *disk.Disk) {
			for _, file := range d.List()[:3] {
				d.Remove(file)
			}
			d.Rename("log.000004", "log.000700")
		}},
		{"a later one has another number", 1, 8, func(d *disk.Disk) { d.Rename("log.000004", "log.000123") }},
		{"two are exchanged", 0, 0, func(d *disk.Disk) {
			d.Rename("log.000002", "other")
			d.Rename("log.000003", "log.000002")
			d.Rename("other", "log.000003")
		}},
	} {
		d := begin()
		c.do(d)
		before := d.Clone()
		l, e := wal.Open(d, "log")
		expectSame(t, "Open", d, before)
		if c.count == 0 {
			expectErr(t, "Open, where "+c.what, e, api.ErrGap)
			if l != nil {
				t.Errorf("Open, where %s: a log with an error", c.what)
			}
			continue
		}
		expectErr(t, "Open, where "+c.what, e, api.OK)
		expectRecords(t, l, c.first, numbered(c.first, c.count)...)
		committed(t, l, "further")
		expectRecords(t, opened(t, d, "log"), c.first, append(numbered(c.first, c.count), "further")...)
	}
}

// P27.2: the numbers of records, and how many wait.
func TestAppend(t *testing.T) {
	d := made(t, 1<<20)
	l := opened(t, d, "log")
	before := d.Clone()
	for k := range 5 {
		number, e := l.Append(fmt.Sprint(k))
		if number != k+1 || e != api.OK || l.Pending() != k+1 {
			t.Errorf("Append: %d, %d; %d wait", number, e, l.Pending())
		}
	}
	// What waits is no part of the log.
	expectRecords(t, l, 1)
	expectSame(t, "Append", d, before)
	expectErr(t, "Discard", l.Discard(), api.OK)
	if l.Pending() != 0 {
		t.Errorf("Pending behind Discard: %d", l.Pending())
	}
	expectErr(t, "Discard", l.Discard(), api.OK)
	expectSame(t, "Discard", d, before)
	committed(t, l, "a", "b")
	waiting(t, l, "c")
	expectErr(t, "Discard", l.Discard(), api.OK)
	committed(t, l, "d")
	expectRecords(t, l, 1, "a", "b", "d")
	expectRecords(t, opened(t, d, "log"), 1, "a", "b", "d")
}

// P27.2: the errors, in their order.
func TestAppendErrors(t *testing.T) {
	d := made(t, disk.MaxCapacity)
	l := opened(t, d, "log")
	most := strings.Repeat("x", 1<<16)
	expectAppend := func(record string, want int, wantErr api.Errno) {
		t.Helper()
		number, e := l.Append(record)
		if number != want || e != wantErr {
			t.Errorf("Append of %d bytes: %d, %d; want %d, %d", len(record), number, e, want, wantErr)
		}
	}
	expectAppend(most+"x", 0, api.ErrLong)
	if l.Pending() != 0 {
		t.Error("a record that is too long waits")
	}
	var all []string
	for k := range 256 {
		record := most[k:]
		expectAppend(record, k+1, api.OK)
		all = append(all, record)
	}
	expectAppend("", 0, api.ErrLimit)
	expectAppend(most, 0, api.ErrLimit)
	expectAppend(most+"x", 0, api.ErrLong)
	if l.Pending() != 256 {
		t.Errorf("Pending: %d", l.Pending())
	}
	if last, e := l.Commit(); last != 256 || e != api.OK {
		t.Errorf("Commit: %d, %d", last, e)
	}
	expectRecords(t, l, 1, all...)
	expectRecords(t, opened(t, d, "log"), 1, all...)
	for k := range 256 {
		expectAppend("", 257+k, api.OK)
	}
	expectAppend("", 0, api.ErrLimit)
	expectErr(t, "Discard", l.Discard(), api.OK)
	expectAppend("", 257, api.OK)
}

// P27.4: the records, and the errors in their order.
func TestRecords(t *testing.T) {
	d := made(t, 10000)
	l := opened(t, d, "log")
	expectNumbers := func(number int, read, replay api.Errno, want ...string) {
		t.Helper()
		record, e := l.Read(number)
		expectErr(t, fmt.Sprint("Read of ", number), e, read)
		if e != api.OK && record != "" || e == api.OK && record != want[0] {
			t.Errorf("Read of %d: %q", number, record)
		}
		records, e := l.Replay(number)
		expectErr(t, fmt.Sprint("Replay from ", number), e, replay)
		if !slices.Equal(records, want) {
			t.Errorf("Replay from %d: %q, want %q", number, records, want)
		}
	}
	for _, n := range []int{math.MinInt, -1, 0, 2, math.MaxInt} {
		expectNumbers(n, api.ErrNotFound, api.ErrNotFound)
	}
	expectNumbers(1, api.ErrNotFound, api.OK)
	waiting(t, l, "x")
	expectNumbers(1, api.ErrNotFound, api.OK)
	expectNumbers(2, api.ErrNotFound, api.ErrNotFound)
	expectErr(t, "Discard", l.Discard(), api.OK)
	for k := range 3 {
		committed(t, l, numbered(2*k+1, 2)...)
		l = opened(t, d, "log")
	}
	for n := 1; n <= 6; n++ {
		expectNumbers(n, api.OK, api.OK, numbered(n, 7-n)...)
	}
	expectErr(t, "Truncate", l.Truncate(4), api.OK)
	for n := 5; n <= 6; n++ {
		expectNumbers(n, api.OK, api.OK, numbered(n, 7-n)...)
	}
	for n := 1; n <= 4; n++ {
		expectNumbers(n, api.ErrRemoved, api.ErrRemoved)
	}
	expectNumbers(7, api.ErrNotFound, api.OK)
	for _, n := range []int{math.MinInt, -5, 0, 8, math.MaxInt} {
		expectNumbers(n, api.ErrNotFound, api.ErrNotFound)
	}
}

// P27.3, P27.5: how results and arguments stay independent of the log.
func TestIndependence(t *testing.T) {
	d := made(t, 1000)
	l := opened(t, d, "log")
	committed(t, l, "a", "b")
	committed(t, opened(t, d, "log"), "c")
	l = opened(t, d, "log")
	records, _ := l.Replay(1)
	records[0], records[2] = "x", "y"
	records = append(records[:1], "z", "z")
	files := l.Segments()
	files[0] = "x"
	files = append(files[:1], "z")
	expectRecords(t, l, 1, "a", "b", "c")
	expectSegments(t, l, "log", 1, 2)
	expectErr(t, "Truncate", l.Truncate(2), api.OK)
	if len(records) != 3 || len(files) != 2 {
		t.Error("the results have changed")
	}
}

// P1, P27: what methods of a nil log, or of one that is broken, return.
func expectNothing(t *testing.T, what string, l *wal.Log, want api.Errno) {
	t.Helper()
	number, e := l.Append("x")
	expectErr(t, what+": Append", e, want)
	last, e := l.Commit()
	expectErr(t, what+": Commit", e, want)
	record, e := l.Read(1)
	expectErr(t, what+": Read", e, want)
	records, e := l.Replay(1)
	expectErr(t, what+": Replay", e, want)
	expectErr(t, what+": Discard", l.Discard(), want)
	expectErr(t, what+": Truncate", l.Truncate(1), want)
	_, e = l.Append(strings.Repeat("x", wal.MaxRecord+1))
	expectErr(t, what+": Append of too much", e, want)
	_, e = l.Read(-1)
	expectErr(t, what+": Read of no number", e, want)
	if number != 0 || last != 0 || record != "" || len(records) != 0 {
		t.Errorf("%s: %d, %d, %q, %q", what, number, last, record, records)
	}
	if l.Pending() != 0 || l.First() != 0 || l.Last() != 0 || len(l.Segments()) != 0 {
		t.Errorf("%s: Pending %d, First %d, Last %d, Segments %v", what, l.Pending(), l.First(), l.Last(), l.Segments())
	}
}

// P1, P27: nil logs.
func TestNil(t *testing.T) {
	expectNothing(t, "a nil log", nil, api.ErrArgument)
}

// P1: a log that Open has not made does no harm.
func TestZeroValue(t *testing.T) {
	var l wal.Log
	expectRecords(t, &l, 1)
	waiting(t, &l, "a")
	last, e := l.Commit()
	expectErr(t, "Commit without a disk", e, api.ErrArgument)
	if last != 0 || l.Pending() != 1 {
		t.Errorf("Commit without a disk: %d, and %d wait", last, l.Pending())
	}
	expectErr(t, "Truncate", l.Truncate(1), api.OK)
	expectErr(t, "Discard", l.Discard(), api.OK)
	expectRecords(t, &l, 1)
	expectSegments(t, &l, "")
}
