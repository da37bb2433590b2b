package disk_test

import (
	"fmt"
	"math"
	"slices"
	"strings"
	"testing"

	"sleuth/api"
	"sleuth/disk"
)

// made returns a disk with a capacity, and expects no error.
func made(t *testing.T, capacity int) *disk.Disk {
	t.Helper()
	d, e := disk.New(capacity)
	expectErr(t, fmt.Sprint("New of ", capacity), e, api.OK)
	return d
}

// expectErr expects an error, and expectOk that there is none.
func expectErr(t *testing.T, what string, got, want api.Errno) {
	t.Helper()
	if got != want {
		t.Errorf("%s: the error %d, want %d", what, got, want)
	}
}

func expectOk(t *testing.T, errors ...api.Errno) {
	t.Helper()
	for k, e := range errors {
		expectErr(t, fmt.Sprint("the operation ", k), e, api.OK)
	}
}

// expectFile expects the bytes of a file, and how many of them are durable.
func expectFile(t *testing.T, d *disk.Disk, name, want string, durable int) {
	t.Helper()
	data, e := d.Read(name)
	expectErr(t, "Read of "+name, e, api.OK)
	synced, e := d.Durable(name)
	expectErr(t, "Durable of "+name, e, api.OK)
	if data != want || synced != want[:durable] {
		t.Errorf("the file %s: %q, durable: %q; want %q and %d bytes", name, data, synced, want, durable)
	}
}

// expectList expects the names of all files.
func expectList(t *testing.T, d *disk.Disk, want ...string) {
	t.Helper()
	if got := d.List(); !slices.Equal(got, want) {
		t.Errorf("List: %v, want %v", got, want)
	}
}

// expectUsed expects how many bytes are used.
func expectUsed(t *testing.T, d *disk.Disk, want int) {
	t.Helper()
	if got := d.Used(); got != want {
		t.Errorf("Used: %d, want %d", got, want)
	}
}

// P26.1: new disks, and the error.
func TestNew(t *testing.T) {
	for _, capacity := range []int{0, 1, 100, 1 << 26} {
		d := made(t, capacity)
		if d.Capacity() != capacity || d.Down() {
			t.Errorf("a new disk: %d, %v", d.Capacity(), d.Down())
		}
		expectUsed(t, d, 0)
		expectList(t, d)
		d.Crash()
		if d.Capacity() != capacity {
			t.Errorf("Capacity of a disk that is down: %d", d.Capacity())
		}
	}
	for _, capacity := range []int{-1, 1<<26 + 1, math.MinInt, math.MaxInt} {
		d, e := disk.New(capacity)
		expectErr(t, fmt.Sprint("New of ", capacity), e, api.ErrRange)
		if d != nil {
			t.Errorf("New of %d: a disk", capacity)
		}
	}
	if disk.MaxFiles != 256 || disk.MaxCapacity != 1<<26 {
		t.Errorf("the limits are %d and %d", disk.MaxFiles, disk.MaxCapacity)
	}
}

// P26.2, P26.3: bytes are added behind the end, and are durable when they are synced.
func TestAppendAndSync(t *testing.T) {
	d := made(t, 100)
	expectOk(t, d.Append("b", "xy"), d.Append("a", ""), d.Append("b", "\x00\xff"))
	expectFile(t, d, "b", "xy\x00\xff", 0)
	expectFile(t, d, "a", "", 0)
	expectList(t, d, "a", "b")
	expectUsed(t, d, 4)
	expectOk(t, d.Sync("b"))
	expectFile(t, d, "b", "xy\x00\xff", 4)
	expectOk(t, d.Append("b", "z"), d.Append("a", "12345"), d.Append("b", ""))
	expectFile(t, d, "b", "xy\x00\xffz", 4)
	expectFile(t, d, "a", "12345", 0)
	expectUsed(t, d, 10)
	expectOk(t, d.Sync("b"), d.Sync("b"), d.Append("B", "1"))
	expectFile(t, d, "b", "xy\x00\xffz", 5)
	expectList(t, d, "B", "a", "b")
}

// P26.2: no more bytes than the capacity, over all files.
func TestFull(t *testing.T) {
	d := made(t, 10)
	expectErr(t, "Append of too much", d.Append("a", strings.Repeat("x", 11)), api.ErrFull)
	expectList(t, d)
	expectOk(t, d.Append("a", "123456"), d.Append("b", "123"))
	before := d.Clone()
	expectErr(t, "Append of too much", d.Append("a", "12"), api.ErrFull)
	expectErr(t, "Append of too much", d.Append("c", "12"), api.ErrFull)
	if !d.Equal(before) {
		t.Error("an error has changed the disk")
	}
	expectOk(t, d.Append("c", "1"), d.Append("d", ""), d.Append("a", ""), d.Sync("a"))
	expectUsed(t, d, 10)
	expectErr(t, "Append of too much", d.Append("a", "1"), api.ErrFull)
	expectOk(t, d.Remove("a"), d.Append("b", "abcdef"))
	expectErr(t, "Append of too much", d.Append("b", "1"), api.ErrFull)
	expectOk(t, d.Rename("b", "c"), d.Append("b", "1"))
	expectUsed(t, d, 10)
	none := made(t, 0)
	expectOk(t, none.Append("a", ""), none.Sync("a"))
	expectErr(t, "Append of a byte", none.Append("a", "1"), api.ErrFull)
	great := made(t, disk.MaxCapacity)
	expectOk(t, great.Append("a", strings.Repeat("x", disk.MaxCapacity)))
	expectErr(t, "Append of a byte", great.Append("b", "1"), api.ErrFull)
	expectUsed(t, great, disk.MaxCapacity)
}

// names returns so many names in order.
func names(n int) []string {
	var l []string
	for k := range n {
		l = append(l, fmt.Sprintf("f%03d", k))
	}
	return l
}

// P26.2: no more files than permitted.
func TestManyFiles(t *testing.T) {
	d := made(t, 256)
	for _, name := range names(256) {
		expectOk(t, d.Append(name, "x"))
	}
	expectList(t, d, names(256)...)
	before := d.Clone()
	expectErr(t, "Append to a further file", d.Append("a", ""), api.ErrLimit)
	expectErr(t, "Append of too much to a further file", d.Append("a", "x"), api.ErrLimit)
	expectErr(t, "Append of too much", d.Append("f100", "x"), api.ErrFull)
	if !d.Equal(before) {
		t.Error("an error has changed the disk")
	}
	before.Limit(0)
	expectErr(t, "Append to a further file with the limit 0", before.Append("a", ""), api.ErrLimit)
	expectOk(t, d.Append("f100", ""), d.Rename("f100", "a"), d.Remove("f000"), d.Append("b", "x"))
	expectErr(t, "Append to a further file", d.Append("c", ""), api.ErrLimit)
	expectList(t, d, append([]string{"a", "b"}, slices.DeleteFunc(names(256), func(s string) bool { return s == "f000" || s == "f100" })...)...)
}

// badNames are strings that are no names.
func badNames() []string {
	return []string{"", " ", "a b", "a\n", "\x7f", "ä", strings.Repeat("x", 65)}
}

// calls returns all methods that return errors, with their names as arguments. The first four are the operations.
func calls(d *disk.Disk) []func(name, other string) api.Errno {
	return []func(name, other string) api.Errno{
		func(name, _ string) api.Errno { return d.Append(name, "x") },
		func(name, _ string) api.Errno { return d.Sync(name) },
		func(name, other string) api.Errno { return d.Rename(name, other) },
		func(name, _ string) api.Errno { return d.Remove(name) },
		func(name, _ string) api.Errno { return bytesErr(d.Read(name)) },
		func(name, _ string) api.Errno { return bytesErr(d.Durable(name)) },
	}
}

// bytesErr returns an error, or -1 if there are bytes together with an error.
func bytesErr(data string, e api.Errno) api.Errno {
	if e != api.OK && data != "" {
		return -1
	}
	return e
}

// Contract: ErrArgument comes before ErrCrash, this one before ErrName, which comes before the errors that are named, and these before the limit.
func TestErrors(t *testing.T) {
	var none *disk.Disk
	down := made(t, 0)
	down.Crash()
	d := made(t, 1)
	expectOk(t, d.Append("a", "x"))
	d.Limit(0)
	before := d.Clone()
	for _, name := range append(badNames(), "a", "b") {
		for k := range 6 {
			expectErr(t, fmt.Sprint("the method ", k, " of nil"), calls(none)[k](name, "a"), api.ErrArgument)
			expectErr(t, fmt.Sprint("the method ", k, " of a disk that is down"), calls(down)[k](name, ""), api.ErrCrash)
		}
	}
	for _, name := range badNames() {
		for k := range 6 {
			expectErr(t, fmt.Sprintf("the method %d with the name %q", k, name), calls(d)[k](name, "a"), api.ErrName)
		}
		expectErr(t, "Rename", d.Rename("a", name), api.ErrName)
		expectErr(t, "Rename of a file that does not exist", d.Rename("b", name), api.ErrName)
	}
	for k := range 6 {
		want := api.ErrNotFound
		if k == 0 {
			want = api.ErrFull
		}
		for _, other := range []string{"a", "b", "c"} {
			expectErr(t, fmt.Sprint("the method ", k), calls(d)[k]("b", other), want)
		}
	}
	if !d.Equal(before) {
		t.Error("errors have changed the disk")
	}
	// There is room for a byte again, so that the limit is all that is left.
	room := made(t, 2)
	expectOk(t, room.Append("a", "x"))
	room.Limit(0)
	for k := range 4 {
		x := room.Clone()
		expectOk(t, calls(x)[4]("a", ""), calls(x)[5]("a", ""))
		expectErr(t, fmt.Sprint("the method ", k, " with the limit 0"), calls(x)[k]("a", "a"), api.ErrCrash)
		if !x.Down() {
			t.Errorf("the method %d has not made the disk go down", k)
		}
	}
}

// P26.1, P26.3: what is not an error of a disk that is down or nil.
func TestNilAndDown(t *testing.T) {
	var none *disk.Disk
	none.Limit(5)
	none.Crash()
	none.Start([]int{1})
	if none.List() != nil || none.Used() != 0 || none.Capacity() != 0 || none.Down() || none.Clone() != nil {
		t.Error("a nil disk has something")
	}
	d := made(t, 10)
	if !none.Equal(nil) || none.Equal(d) || d.Equal(nil) {
		t.Error("Equal of a nil disk")
	}
	expectOk(t, d.Append("a", "x"), d.Sync("a"))
	d.Crash()
	expectList(t, d)
	expectUsed(t, d, 0)
	if !d.Down() || d.Capacity() != 10 {
		t.Error("a disk that is down")
	}
	d.Crash()
	d.Start(nil)
	expectList(t, d, "a")
	expectUsed(t, d, 1)
	if d.Down() {
		t.Error("the disk is still down")
	}
}

// P26.2: all names are permitted, with as many bytes as names can have.
func TestNames(t *testing.T) {
	d := made(t, 100)
	good := []string{"!", "~", "log.000001", "a/b", "..", strings.Repeat("x", 64)}
	for _, name := range good {
		expectOk(t, d.Append(name, name[:1]), d.Sync(name))
		expectFile(t, d, name, name[:1], 1)
	}
	slices.Sort(good)
	expectList(t, d, good...)
}

// P26.4: a renamed file keeps its bytes and what is durable of them, and takes the place of another one.
func TestRename(t *testing.T) {
	d := made(t, 100)
	expectOk(t, d.Append("a", "12"), d.Sync("a"), d.Append("a", "3"), d.Append("b", "4567"), d.Append("c", "8"), d.Sync("c"))
	expectOk(t, d.Rename("a", "d"))
	expectFile(t, d, "d", "123", 2)
	expectList(t, d, "b", "c", "d")
	before := d.Clone()
	expectOk(t, d.Rename("d", "d"), d.Rename("b", "b"))
	if !d.Equal(before) {
		t.Error("a file with its own name has changed")
	}
	expectErr(t, "Rename of a missing file", d.Rename("a", "b"), api.ErrNotFound)
	expectErr(t, "Rename of a missing file", d.Rename("a", "a"), api.ErrNotFound)
	if !d.Equal(before) {
		t.Error("an error has changed the disk")
	}
	expectOk(t, d.Rename("d", "b"))
	expectFile(t, d, "b", "123", 2)
	expectList(t, d, "b", "c")
	expectUsed(t, d, 4)
	expectOk(t, d.Append("d", "new"))
	expectFile(t, d, "d", "new", 0)
	expectFile(t, d, "b", "123", 2)
}

// P26.4: renaming is durable at once, and a file that is not durable takes the place of one that is.
func TestRenameSurvives(t *testing.T) {
	d := made(t, 100)
	expectOk(t, d.Append("a", "12"), d.Sync("a"), d.Append("b", "34"), d.Append("c", "56"), d.Sync("c"), d.Append("c", "7"))
	expectOk(t, d.Rename("a", "x"), d.Rename("c", "a"))
	d.Crash()
	d.Start([]int{0})
	expectList(t, d, "a", "x")
	expectFile(t, d, "x", "12", 2)
	expectFile(t, d, "a", "56", 2)
	expectOk(t, d.Append("b", "34"), d.Rename("b", "a"))
	d.Crash()
	d.Start(nil)
	expectList(t, d, "x")
}

// P26.4: a removed file is gone at once, and one with the same name is a new one.
func TestRemove(t *testing.T) {
	d := made(t, 100)
	expectOk(t, d.Append("a", "12"), d.Sync("a"), d.Append("b", "34"), d.Sync("b"), d.Remove("a"))
	expectErr(t, "Remove of a missing file", d.Remove("a"), api.ErrNotFound)
	expectErr(t, "Remove of a missing file", d.Remove("c"), api.ErrNotFound)
	expectList(t, d, "b")
	d.Crash()
	d.Start(nil)
	expectList(t, d, "b")
	expectOk(t, d.Append("a", "5"))
	expectFile(t, d, "a", "5", 0)
	expectUsed(t, d, 3)
	d.Crash()
	d.Start(nil)
	expectList(t, d, "b")
}

// P26.7: independent copies, to which whatever happens to the other one makes no difference.
func TestClone(t *testing.T) {
	d := made(t, 100)
	expectOk(t, d.Append("a", "12"), d.Sync("a"), d.Append("a", "3"), d.Append("b", "4"))
	d.Limit(9)
	clone := d.Clone()
	if !clone.Equal(d) || !d.Equal(clone) {
		t.Error("a copy is not equal")
	}
	expectOk(t, clone.Append("a", "x"), d.Append("a", "y"), clone.Append("a", "xx"), d.Append("a", "yy"), d.Append("c", "5"), clone.Remove("b"))
	expectFile(t, clone, "a", "123xxx", 2)
	expectFile(t, d, "a", "123yyy", 2)
	expectList(t, clone, "a")
	expectList(t, d, "a", "b", "c")
	copied := d.Clone()
	d.Crash()
	d.Start([]int{2})
	expectOk(t, d.Append("a", "zzzz"))
	expectFile(t, d, "a", "123yzzzz", 4)
	expectFile(t, copied, "a", "123yyy", 2)
	copied.Crash()
	again := copied.Clone()
	if !again.Down() || !again.Equal(copied) || again.Capacity() != 100 {
		t.Error("a copy of a disk that is down")
	}
	copied.Start(nil)
	again.Start([]int{4})
	expectFile(t, copied, "a", "12", 2)
	expectFile(t, again, "a", "123yyy", 6)
}

// P26.7: disks that differ in one thing.
func TestEqual(t *testing.T) {
	changes := []func(d *disk.Disk){
		func(d *disk.Disk) { d.Append("a", "1") },
		func(d *disk.Disk) { d.Append("c", "") },
		func(d *disk.Disk) { d.Sync("a") },
		func(d *disk.Disk) { d.Sync("empty") },
		func(d *disk.Disk) { d.Rename("a", "A") },
		func(d *disk.Disk) { d.Rename("b", "a") },
		func(d *disk.Disk) { d.Remove("a") },
		func(d *disk.Disk) { d.Remove("a"); d.Append("a", "13"); d.Sync("a"); d.Append("a", "3") },
		func(d *disk.Disk) { d.Limit(0) },
		func(d *disk.Disk) { d.Limit(1) },
		func(d *disk.Disk) { d.Limit(math.MaxInt) },
		func(d *disk.Disk) { d.Crash() },
		func(d *disk.Disk) { d.Crash(); d.Limit(5) },
		func(d *disk.Disk) { d.Limit(0); d.Append("a", "") },
		func(d *disk.Disk) { d.Crash(); d.Start(nil) },
		func(d *disk.Disk) { d.Crash(); d.Start([]int{1, 1}) },
	}
	var all []*disk.Disk
	for _, change := range append(changes, func(d *disk.Disk) {}) {
		d := made(t, 100)
		expectOk(t, d.Append("a", "12"), d.Sync("a"), d.Append("a", "3"), d.Append("b", "123"), d.Append("empty", ""))
		change(d)
		all = append(all, d)
	}
	other := made(t, 99)
	expectOk(t, other.Append("a", "12"), other.Sync("a"), other.Append("a", "3"), other.Append("b", "123"), other.Append("empty", ""))
	all = append(all, other, made(t, 100), made(t, 101), nil)
	for k, d := range all {
		for n, o := range all {
			if d.Equal(o) != (k == n) {
				t.Errorf("Equal of the disks %d and %d: %v", k, n, k != n)
			}
		}
		if !d.Equal(d.Clone()) {
			t.Errorf("Equal of the disk %d and its copy", k)
		}
	}
}

// P26.7: the limits that are equal.
func TestEqualLimits(t *testing.T) {
	d, o := made(t, 9), made(t, 9)
	for _, n := range []int{0, -1, math.MinInt} {
		d.Limit(n)
		o.Limit(0)
		if !d.Equal(o) {
			t.Errorf("the limit %d is not that of 0", n)
		}
	}
	d.Limit(3)
	o.Limit(2)
	expectOk(t, d.Append("a", ""), o.Append("a", ""))
	if d.Equal(o) {
		t.Error("the limits 2 and 1 are equal")
	}
	expectOk(t, d.Append("a", ""))
	if !d.Equal(o) {
		t.Error("the limits 1 and 1 are not equal")
	}
	for _, x := range []*disk.Disk{d, o} {
		x.Crash()
		x.Start(nil)
	}
	if !d.Equal(o) || !d.Equal(made(t, 9)) {
		t.Error("something is left of the limit")
	}
}

// Disks that New has not made have the capacity 0, and results belong to the caller.
func TestZeroValue(t *testing.T) {
	var d disk.Disk
	if !d.Equal(made(t, 0)) || d.Down() {
		t.Error("not like a new disk")
	}
	expectErr(t, "Append", d.Append("a", "x"), api.ErrFull)
	expectErr(t, "Remove", d.Remove("a"), api.ErrNotFound)
	expectOk(t, d.Append("b", ""), d.Append("a", ""))
	d.List()[0] = "changed"
	expectList(t, &d, "a", "b")
	d.Crash()
	d.Start([]int{5})
	if !d.Equal(d.Clone()) || !d.Equal(made(t, 0)) {
		t.Error("not like a new disk")
	}
}
