package disk_test

import (
	"fmt"
	"math"
	"math/rand"
	"slices"
	"strings"
	"testing"

	"sleuth/api"
	"sleuth/disk"
)

// P26.6: the first example of the document.
func TestFirstExample(t *testing.T) {
	d := made(t, 100)
	expectOk(t, d.Append("a", "xy"), d.Sync("a"), d.Append("a", "zw"), d.Append("b", "q"))
	d.Crash()
	d.Start([]int{1})
	expectList(t, d, "a")
	expectFile(t, d, "a", "xyz", 3)
}

// P26.5: the second example of the document.
func TestSecondExample(t *testing.T) {
	d := made(t, 100)
	d.Limit(1)
	expectOk(t, d.Append("a", "x"))
	expectErr(t, "Sync", d.Sync("a"), api.ErrCrash)
	d.Start(nil)
	expectList(t, d)
}

// P26.5: as many operations return OK as the limit says, and others do not count.
func TestLimit(t *testing.T) {
	for _, c := range []struct{ limit, want int }{{math.MinInt, 0}, {-1, 0}, {0, 0}, {1, 1}, {2, 2}, {7, 7}, {50, 50}} {
		d := made(t, 100)
		expectOk(t, d.Append("a", "1"), d.Append("b", "2"))
		d.Limit(c.limit)
		operations := []func() api.Errno{
			func() api.Errno { return d.Append("a", "") },
			func() api.Errno { return d.Sync("b") },
			func() api.Errno { return d.Rename("a", "a") },
			func() api.Errno { return d.Append("c", "") },
			func() api.Errno { return d.Remove("c") },
		}
		for k := range c.want {
			expectErr(t, fmt.Sprint("the operation ", k), operations[k%5](), api.OK)
			// None of these counts.
			expectOk(t, bytesErr(d.Read("a")), bytesErr(d.Durable("a")))
			expectErr(t, "Append", d.Append("a", strings.Repeat("x", 99)), api.ErrFull)
			expectErr(t, "Sync", d.Sync("x"), api.ErrNotFound)
			expectErr(t, "Rename", d.Rename("x", "a"), api.ErrNotFound)
			expectErr(t, "Remove", d.Remove(""), api.ErrName)
			d.List()
			d.Used()
		}
		if d.Down() {
			t.Errorf("down before the limit %d", c.limit)
		}
		expectErr(t, fmt.Sprint("one more than ", c.limit), operations[c.want%5](), api.ErrCrash)
		if !d.Down() {
			t.Errorf("not down behind the limit %d", c.limit)
		}
	}
}

// P26.5: no limit at first, and none behind a start; a later limit replaces one.
func TestLimits(t *testing.T) {
	d := made(t, 100)
	for range 1000 {
		expectOk(t, d.Append("a", ""))
	}
	d.Limit(0)
	d.Limit(2)
	d.Start(nil)
	expectOk(t, d.Append("a", "x"), d.Sync("a"))
	d.Limit(1)
	expectOk(t, d.Append("a", "y"))
	d.Limit(math.MaxInt)
	for range 100 {
		expectOk(t, d.Append("a", ""))
	}
	d.Limit(0)
	d.Crash()
	d.Limit(0)
	d.Start(nil)
	for range 100 {
		expectOk(t, d.Append("a", ""))
	}
	expectFile(t, d, "a", "x", 1)
}

// P26.5: what the operation does during which the disk goes down.
func TestLastOperation(t *testing.T) {
	begin := func() *disk.Disk {
		d := made(t, 100)
		expectOk(t, d.Append("a", "12"), d.Sync("a"), d.Append("a", "34"), d.Append("b", "5"), d.Sync("b"), d.Append("c", "6"))
		d.Limit(0)
		return d
	}
	all := []int{math.MaxInt}
	d := begin()
	expectErr(t, "Append", d.Append("a", "789"), api.ErrCrash)
	o := d.Clone()
	d.Start([]int{5})
	expectFile(t, d, "a", "1234789", 7)
	o.Start([]int{3})
	expectFile(t, o, "a", "12347", 5)
	d = begin()
	expectErr(t, "Append to a new file", d.Append("d", "789"), api.ErrCrash)
	if d.Equal(begin()) {
		t.Error("Append has not added anything")
	}
	for _, c := range []struct {
		what string
		call func(d *disk.Disk) api.Errno
	}{
		{"Append to a new file", func(d *disk.Disk) api.Errno { return d.Append("d", "789") }},
		{"Sync", func(d *disk.Disk) api.Errno { return d.Sync("a") }},
		{"Sync of a new file", func(d *disk.Disk) api.Errno { return d.Sync("c") }},
		{"Rename", func(d *disk.Disk) api.Errno { return d.Rename("a", "b") }},
		{"Remove", func(d *disk.Disk) api.Errno { return d.Remove("b") }},
	} {
		d := begin()
		expectErr(t, c.what, c.call(d), api.ErrCrash)
		d.Start(all[:0])
		expectList(t, d, "a", "b")
		expectFile(t, d, "a", "12", 2)
		expectFile(t, d, "b", "5", 1)
	}
}

// P26.6: how many bytes survive for each number of the script.
func TestScript(t *testing.T) {
	for n := range 5 {
		for _, c := range []int{0, 1, 2, 3, 4, 5, 6, 7, 100, -1, -2, -3, -4, -5, -6, -7, -100, math.MinInt, math.MinInt + 1, math.MaxInt, math.MaxInt - 1} {
			d := made(t, 100)
			expectOk(t, d.Append("a", "xyz"), d.Sync("a"), d.Append("a", "1234"[:n]))
			d.Crash()
			d.Start([]int{c, 3, 3})
			kept := c % (n + 1)
			if kept < 0 {
				kept += n + 1
			}
			expectFile(t, d, "a", "xyz"+"1234"[:kept], 3+kept)
			expectUsed(t, d, 3+kept)
		}
	}
}

// P26.6: only durable files with unsynced bytes take a number, in the order of their names.
func TestScriptOfFiles(t *testing.T) {
	begin := func() *disk.Disk {
		d := made(t, 100)
		for _, name := range []string{"d", "b", "e", "a", "c"} {
			expectOk(t, d.Append(name, "x"))
		}
		expectOk(t, d.Sync("b"), d.Sync("c"), d.Sync("d"), d.Sync("e"))
		expectOk(t, d.Append("d", "123"), d.Append("b", "123"), d.Append("c", ""), d.Append("e", "123"))
		d.Crash()
		return d
	}
	for _, c := range []struct {
		script  []int
		b, d, e int
	}{
		{nil, 0, 0, 0},
		{[]int{1}, 1, 0, 0},
		{[]int{0, 2}, 0, 2, 0},
		{[]int{3, 2, 1}, 3, 2, 1},
		{[]int{4, 7, -1, 3, 3}, 0, 3, 3},
	} {
		d := begin()
		d.Start(c.script)
		expectList(t, d, "b", "c", "d", "e")
		expectFile(t, d, "b", "x123"[:1+c.b], 1+c.b)
		expectFile(t, d, "c", "x", 1)
		expectFile(t, d, "d", "x123"[:1+c.d], 1+c.d)
		expectFile(t, d, "e", "x123"[:1+c.e], 1+c.e)
	}
}

// P26.6: Start of a disk that is up does nothing, and keeps the script.
func TestStart(t *testing.T) {
	d := made(t, 100)
	expectOk(t, d.Append("a", "x"), d.Sync("a"), d.Append("a", "y"), d.Append("b", "z"))
	d.Limit(5)
	before, script := d.Clone(), []int{7, -7}
	d.Start(script)
	if !d.Equal(before) {
		t.Error("Start has changed a disk that is up")
	}
	d.Crash()
	d.Start(script)
	expectFile(t, d, "a", "xy", 2)
	if !slices.Equal(script, []int{7, -7}) {
		t.Errorf("the script has changed: %v", script)
	}
	d.Crash()
	d.Start(script)
	expectFile(t, d, "a", "xy", 2)
	expectOk(t, d.Append("a", "z"))
	expectFile(t, d, "a", "xyz", 2)
}

// entry is a file of a model: its durable and its unsynced bytes.
type entry struct {
	name, durable, unsynced string
	isDurable               bool
}

// model is a disk as the terms describe it, with its files in any order, and fewer than the greatest number of them. A limit of -1 is none.
type model struct {
	capacity, limit int
	files           []entry
	isDown          bool
}

func (m *model) place(name string) int {
	return slices.IndexFunc(m.files, func(f entry) bool { return f.name == name })
}

func (m *model) used() int {
	used := 0
	for _, f := range m.files {
		used += len(f.durable) + len(f.unsynced)
	}
	return used
}

// crash reports whether an operation reaches the limit.
func (m *model) crash() bool {
	if m.limit == 0 {
		m.isDown = true
	}
	m.limit = max(m.limit-1, min(m.limit, 0))
	return m.isDown
}

func (m *model) append(name, data string) api.Errno {
	place := m.place(name)
	switch {
	case m.isDown:
		return api.ErrCrash
	case m.used()+len(data) > m.capacity:
		return api.ErrFull
	}
	if place < 0 {
		place = len(m.files)
		m.files = append(m.files, entry{name: name})
	}
	m.files[place].unsynced += data
	if m.crash() {
		return api.ErrCrash
	}
	return api.OK
}

// change does something with a file that has to be there.
func (m *model) change(name string, do func(place int)) api.Errno {
	place := m.place(name)
	switch {
	case m.isDown:
		return api.ErrCrash
	case place < 0:
		return api.ErrNotFound
	case m.crash():
		return api.ErrCrash
	}
	do(place)
	return api.OK
}

func (m *model) sync(name string) api.Errno {
	return m.change(name, func(place int) {
		f := m.files[place]
		m.files[place] = entry{name, f.durable + f.unsynced, "", true}
	})
}

func (m *model) remove(name string) api.Errno {
	return m.change(name, func(place int) { m.files = slices.Delete(m.files, place, place+1) })
}

func (m *model) rename(old, new string) api.Errno {
	return m.change(old, func(place int) {
		m.files[place].name = ""
		m.files = slices.DeleteFunc(m.files, func(f entry) bool { return f.name == new })
		m.files[m.place("")].name = new
	})
}

func (m *model) start(script []int) {
	if !m.isDown {
		return
	}
	m.files = slices.DeleteFunc(m.files, func(f entry) bool { return !f.isDurable })
	slices.SortFunc(m.files, func(a, b entry) int { return strings.Compare(a.name, b.name) })
	script = append(slices.Clone(script), make([]int, len(m.files))...)
	for k, f := range m.files {
		if f.unsynced == "" {
			continue
		}
		kept := script[0] % (len(f.unsynced) + 1)
		if kept < 0 {
			kept += len(f.unsynced) + 1
		}
		script = script[1:]
		m.files[k] = entry{f.name, f.durable + f.unsynced[:kept], "", true}
	}
	m.isDown, m.limit = false, -1
}

// step does the same with a disk and its model.
func step(r *rand.Rand, d *disk.Disk, m *model) (got, want api.Errno) {
	name, other := some(r), some(r)
	switch kind := r.Intn(100); {
	case kind < 50:
		data := strings.Repeat(name, r.Intn(6))
		return d.Append(name, data), m.append(name, data)
	case kind < 65:
		return d.Sync(name), m.sync(name)
	case kind < 75:
		return d.Rename(name, other), m.rename(name, other)
	case kind < 80:
		return d.Remove(name), m.remove(name)
	case kind < 84:
		limit := r.Intn(12) - 2
		d.Limit(limit)
		m.limit = max(limit, 0)
	case kind < 87:
		d.Crash()
		m.isDown = true
	default:
		script := []int{r.Intn(20) - 10, r.Int() - r.Int(), r.Intn(3)}[:r.Intn(4)]
		d.Start(script)
		m.start(script)
	}
	return api.OK, api.OK
}

// some returns one of few names.
func some(r *rand.Rand) string { return string("abcdef"[r.Intn(6)]) }

// expectModel expects that a disk is as its model.
func expectModel(t *testing.T, d *disk.Disk, m *model) {
	t.Helper()
	if d.Down() != m.isDown || d.Capacity() != m.capacity {
		t.Fatalf("Down: %v, Capacity: %d", d.Down(), d.Capacity())
	}
	if m.isDown {
		expectList(t, d)
		expectUsed(t, d, 0)
		return
	}
	var list []string
	for _, f := range m.files {
		expectFile(t, d, f.name, f.durable+f.unsynced, len(f.durable))
		list = append(list, f.name)
	}
	slices.Sort(list)
	expectList(t, d, list...)
	expectUsed(t, d, m.used())
}

// P26.1 to P26.8: whatever is done, a disk is as the terms describe it, and so is another one on which the same is done.
func TestModels(t *testing.T) {
	for seed := range int64(300) {
		r, same := rand.New(rand.NewSource(seed)), rand.New(rand.NewSource(seed))
		capacity := 10 + int(seed)%60
		d, m := made(t, capacity), model{capacity: capacity, limit: -1}
		twin, other := made(t, capacity), model{capacity: capacity, limit: -1}
		for n := range 200 {
			got, want := step(r, d, &m)
			expectErr(t, fmt.Sprintf("the step %d of the seed %d", n, seed), got, want)
			expectModel(t, d, &m)
			step(same, twin, &other)
			if t.Failed() || !d.Equal(twin) || !twin.Equal(d) {
				t.Fatalf("wrong or not equal behind the step %d of the seed %d", n, seed)
			}
			if n%10 == 0 {
				d = d.Clone()
			}
		}
	}
}

// P26.8, P14: whenever the machine fails, and whatever the script, what was synced survives, and a beginning of the rest.
func TestFailures(t *testing.T) {
	pieces := []string{"one ", "two ", "three ", "four ", "five ", "six "}
	r := rand.New(rand.NewSource(9))
	for limit := range 2*len(pieces) + 2 {
		for range 50 {
			d := made(t, 100)
			d.Limit(limit)
			offered, synced := "", ""
			for _, p := range pieces {
				isUp := !d.Down()
				if d.Append("a", p) == api.OK || isUp {
					offered += p
				}
				if d.Sync("a") == api.OK {
					synced = offered
				}
			}
			d.Crash()
			d.Start([]int{r.Int() - r.Int()})
			data, e := d.Read("a")
			if synced == "" && e == api.ErrNotFound {
				continue
			}
			expectErr(t, "Read", e, api.OK)
			if !strings.HasPrefix(data, synced) || !strings.HasPrefix(offered, data) {
				t.Errorf("%q, synced: %q, offered: %q", data, synced, offered)
			}
			expectFile(t, d, "a", data, len(data))
		}
	}
}
