package wal_test

import (
	"fmt"
	"math"
	"math/rand"
	"slices"
	"strings"
	"testing"

	"sleuth/api"
	"sleuth/disk"
	"sleuth/wal"
)

// P27.3: eight groups make a segment, and so does Open.
func TestSegmentsOfGroups(t *testing.T) {
	d := made(t, 10000)
	l := opened(t, d, "log")
	var all []string
	for k := range 20 {
		group := numbered(len(all)+1, 1+k%3)
		all = append(all, group...)
		committed(t, l, group...)
		expectSegments(t, l, "log", []int{1, 2, 3}[:1+k/8]...)
	}
	expectRecords(t, l, 1, all...)
	if !slices.Equal(d.List(), l.Segments()) {
		t.Errorf("the files: %v", d.List())
	}
	l = opened(t, d, "log")
	expectSegments(t, l, "log", 1, 2, 3)
	committed(t, l)
	expectSegments(t, l, "log", 1, 2, 3)
	for k := range 9 {
		all = append(all, "x")
		committed(t, l, "x")
		expectSegments(t, l, "log", []int{1, 2, 3, 4, 5}[:4+k/8]...)
	}
	l = opened(t, d, "log")
	committed(t, l, "y")
	expectSegments(t, l, "log", 1, 2, 3, 4, 5, 6)
	expectRecords(t, opened(t, d, "log"), 1, append(all, "y")...)
}

// P27.3: names of segments have six digits.
func TestNames(t *testing.T) {
	d := made(t, 10000)
	committed(t, opened(t, d, "log"), "a")
	for _, last := range []int{1, 8, 9, 10, 98, 99, 999, 9998, 99998, 99999, 100000, 123456, 999998} {
		file := fmt.Sprintf("log.%06d", last)
		expectErr(t, "Rename", d.Rename(d.List()[0], file), api.OK)
		l := opened(t, d, "log")
		expectSegments(t, l, "log", last)
		committed(t, l, "b")
		expectSegments(t, l, "log", last, last+1)
		expectErr(t, "Remove", d.Remove(fmt.Sprintf("log.%06d", last+1)), api.OK)
		expectRecords(t, opened(t, d, "log"), 1, "a")
	}
}

// P27.3: a Commit of nothing writes nothing.
func TestCommitOfNothing(t *testing.T) {
	d := made(t, 1000)
	l := opened(t, d, "log")
	d.Limit(0)
	before := d.Clone()
	committed(t, l)
	expectSame(t, "Commit", d, before)
	d.Crash()
	d.Start(nil)
	committed(t, l, "a", "b")
	d.Limit(0)
	before = d.Clone()
	committed(t, l)
	expectSame(t, "Commit", d, before)
	expectSegments(t, l, "log", 1)
}

// P27.3: behind a Commit, everything is durable.
func TestCommitIsDurable(t *testing.T) {
	d := made(t, 10000)
	l := opened(t, d, "log")
	for k := range 20 {
		committed(t, l, numbered(k+1, 1)...)
		for _, script := range [][]int{nil, {1, 2, 3}, {-1, -1}} {
			c := d.Clone()
			c.Crash()
			c.Start(script)
			expectRecords(t, opened(t, c, "log"), 1, numbered(1, k+1)...)
		}
	}
}

// expectRefused expects that a Commit returns an error, and that it changes nothing.
func expectRefused(t *testing.T, d *disk.Disk, l *wal.Log, want api.Errno) {
	t.Helper()
	before, pending, files, end := d.Clone(), l.Pending(), l.Segments(), l.Last()
	last, e := l.Commit()
	expectErr(t, "Commit", e, want)
	expectSame(t, "Commit", d, before)
	if last != 0 || l.Pending() != pending || !slices.Equal(l.Segments(), files) || l.Last() != end {
		t.Errorf("Commit: %d, and %d wait; the segments %v", last, l.Pending(), l.Segments())
	}
}

// P27.3: a disk without room, for a new segment and for the last one.
func TestFull(t *testing.T) {
	d := made(t, 300)
	l := opened(t, d, "log")
	expectErr(t, "Append", d.Append("other", strings.Repeat("x", 250)), api.OK)
	waiting(t, l, strings.Repeat("a", 60), "b")
	expectRefused(t, d, l, api.ErrFull)
	expectErr(t, "Remove", d.Remove("other"), api.OK)
	committed(t, l)
	expectRecords(t, l, 1, strings.Repeat("a", 60), "b")
	waiting(t, l, strings.Repeat("c", 300))
	expectRefused(t, d, l, api.ErrFull)
	expectRefused(t, d, l, api.ErrFull)
	expectErr(t, "Discard", l.Discard(), api.OK)
	committed(t, l, "d")
	expectRecords(t, l, 1, strings.Repeat("a", 60), "b", "d")
	expectSegments(t, l, "log", 1)
	expectRecords(t, opened(t, d, "log"), 1, strings.Repeat("a", 60), "b", "d")
}

// P27.3: room for a group is as much as the group needs, to the byte.
func TestRoom(t *testing.T) {
	great := made(t, 10000)
	committed(t, opened(t, great, "log"), "a", "b", "c")
	least := great.Used()
	d := made(t, least)
	committed(t, opened(t, d, "log"), "a", "b", "c")
	d = made(t, least-1)
	l := opened(t, d, "log")
	waiting(t, l, "a", "b", "c")
	expectRefused(t, d, l, api.ErrFull)
}

// P27.3: a disk without further files; the last segment still takes groups.
func TestManyFiles(t *testing.T) {
	d := made(t, 20000)
	l := opened(t, d, "log")
	committed(t, l, "1")
	for k := range disk.MaxFiles - 1 {
		expectErr(t, "Append", d.Append(fmt.Sprint("f", k), ""), api.OK)
	}
	for k := range 7 {
		committed(t, l, fmt.Sprint(k+2))
	}
	waiting(t, l, "9")
	expectRefused(t, d, l, api.ErrLimit)
	// Neither a file nor room: the file comes first.
	full := strings.Repeat("x", d.Capacity()-d.Used())
	expectErr(t, "Append", d.Append("f0", full), api.OK)
	expectRefused(t, d, l, api.ErrLimit)
	expectErr(t, "Remove", d.Remove("f1"), api.OK)
	expectRefused(t, d, l, api.ErrFull)
	expectErr(t, "Remove", d.Remove("f0"), api.OK)
	committed(t, l)
	expectSegments(t, l, "log", 1, 2)
	expectRecords(t, opened(t, d, "log"), 1, "1", "2", "3", "4", "5", "6", "7", "8", "9")
}

// P27.3: no segment has a greater number than MaxSegments.
func TestLastSegment(t *testing.T) {
	d := made(t, 10000)
	committed(t, opened(t, d, "log"), "a")
	expectErr(t, "Rename", d.Rename("log.000001", "log.999998"), api.OK)
	l := opened(t, d, "log")
	for k := range 8 {
		committed(t, l, numbered(k, 1)...)
	}
	expectSegments(t, l, "log", 999998, 999999)
	waiting(t, l, "b")
	expectRefused(t, d, l, api.ErrLimit)
	l = opened(t, d, "log")
	expectRecords(t, l, 1, append([]string{"a"}, numbered(0, 8)...)...)
	waiting(t, l, "b", "c")
	expectRefused(t, d, l, api.ErrLimit)
	// There is no room either, and the machine would fail.
	expectErr(t, "Append", d.Append("f", strings.Repeat("x", d.Capacity()-d.Used())), api.OK)
	d.Limit(0)
	expectRefused(t, d, l, api.ErrLimit)
	d.Crash()
	last, e := l.Commit()
	expectErr(t, "Commit", e, api.ErrLimit)
	if last != 0 || l.Pending() != 2 {
		t.Errorf("Commit: %d, and %d wait", last, l.Pending())
	}
	expectErr(t, "Discard", l.Discard(), api.OK)
	committed(t, l)
}

// P27.5: which segments are removed.
func TestTruncate(t *testing.T) {
	begin := func() (*disk.Disk, *wal.Log) {
		d := made(t, 10000)
		l := opened(t, d, "log")
		for k := range 18 {
			committed(t, l, numbered(2*k+1, 2)...)
		}
		return d, l
	}
	for _, c := range []struct{ number, removed int }{
		{math.MinInt, 0}, {-1, 0}, {0, 0}, {1, 0}, {15, 0}, {16, 1}, {17, 1}, {31, 1}, {32, 2}, {33, 2}, {35, 2}, {36, 2}, {37, 2}, {math.MaxInt, 2},
	} {
		d, l := begin()
		waiting(t, l, "x")
		expectErr(t, "Truncate", l.Truncate(c.number), api.OK)
		first := 16*c.removed + 1
		want := numbered(first, 37-first)
		expectRecords(t, l, first, want...)
		expectSegments(t, l, "log", []int{1, 2, 3}[c.removed:]...)
		if !slices.Equal(d.List(), l.Segments()) || l.Pending() != 1 {
			t.Errorf("the files: %v; %d records wait", d.List(), l.Pending())
		}
		committed(t, l)
		want = append(want, "x")
		expectSegments(t, l, "log", []int{1, 2, 3}[c.removed:]...)
		d.Crash()
		d.Start(nil)
		l = opened(t, d, "log")
		expectRecords(t, l, first, want...)
		expectSegments(t, l, "log", []int{1, 2, 3}[c.removed:]...)
		// The last segment stays, and the next one has the next number.
		expectErr(t, "Truncate", l.Truncate(math.MaxInt), api.OK)
		expectRecords(t, l, 33, append(numbered(33, 4), "x")...)
		expectSegments(t, l, "log", 3)
		committed(t, l, "y")
		expectSegments(t, l, "log", 3, 4)
		expectErr(t, "Truncate", l.Truncate(37), api.OK)
		expectRecords(t, l, 38, "y")
		expectSegments(t, l, "log", 4)
	}
}

// P27.5: Truncate that removes nothing does nothing, even if the machine would fail.
func TestTruncateOfNothing(t *testing.T) {
	d := made(t, 1000)
	l := opened(t, d, "log")
	d.Limit(0)
	before := d.Clone()
	expectErr(t, "Truncate", l.Truncate(5), api.OK)
	expectSame(t, "Truncate", d, before)
	d.Limit(4)
	committed(t, l, "a")
	committed(t, l, "b")
	before = d.Clone()
	expectErr(t, "Truncate", l.Truncate(2), api.OK)
	expectSame(t, "Truncate", d, before)
	expectRecords(t, l, 1, "a", "b")
}

// P27, P27.3, P27.5: a failure breaks a log.
func TestBroken(t *testing.T) {
	for limit := range 2 {
		d := made(t, 1000)
		l := opened(t, d, "log")
		committed(t, l, "a")
		waiting(t, l, "b")
		d.Limit(limit)
		last, e := l.Commit()
		expectErr(t, "Commit", e, api.ErrCrash)
		if last != 0 || !d.Down() {
			t.Errorf("Commit: %d", last)
		}
		expectNothing(t, "a broken log", l, api.ErrState)
		d.Start(nil)
		expectNothing(t, "a broken log on a disk that is up", l, api.ErrState)
		expectRecords(t, opened(t, d, "log"), 1, "a")
	}
	d := made(t, 1000)
	committed(t, opened(t, d, "log"), "a")
	committed(t, opened(t, d, "log"), "b")
	l := opened(t, d, "log")
	d.Limit(0)
	expectErr(t, "Truncate", l.Truncate(1), api.ErrCrash)
	expectNothing(t, "a broken log", l, api.ErrState)
}

// P27, P27.3, P27.5: a disk that is down is noticed by what uses it; until then, the log is not broken.
func TestDown(t *testing.T) {
	d := made(t, 1000)
	committed(t, opened(t, d, "log"), "a")
	committed(t, opened(t, d, "log"), "b")
	l := opened(t, d, "log")
	d.Crash()
	expectRecords(t, l, 1, "a", "b")
	expectSegments(t, l, "log", 1, 2)
	expectErr(t, "Truncate", l.Truncate(0), api.OK)
	waiting(t, l, "c")
	_, e := l.Commit()
	expectErr(t, "Commit", e, api.ErrCrash)
	expectNothing(t, "a broken log", l, api.ErrState)
	d.Start(nil)
	l = opened(t, d, "log")
	d.Crash()
	expectErr(t, "Truncate", l.Truncate(1), api.ErrCrash)
	expectNothing(t, "a broken log", l, api.ErrState)
	d.Start(nil)
	l = opened(t, d, "log")
	waiting(t, l, "c")
	d.Crash()
	d.Start(nil)
	// Nothing was written while the disk was down.
	committed(t, l)
	expectRecords(t, opened(t, d, "log"), 1, "a", "b", "c")
}

// P27.6: whenever the machine fails during a Commit, and whatever survives, all records of the group are there, or none of them; the next groups follow.
func TestFailuresOfCommits(t *testing.T) {
	for groups := range 10 {
		for limit := range 2 {
			for survives := range 80 {
				d := made(t, 1000)
				l := opened(t, d, "log")
				for k := range groups {
					committed(t, l, numbered(2*k+1, 2)...)
				}
				want := numbered(1, 2*groups)
				waiting(t, l, numbered(2*groups+1, 3)...)
				d.Limit(limit)
				_, e := l.Commit()
				expectErr(t, "Commit", e, api.ErrCrash)
				d.Start([]int{survives})
				l = opened(t, d, "log")
				if l.Last() != 2*groups {
					want = numbered(1, 2*groups+3)
				}
				expectRecords(t, l, 1, want...)
				committed(t, l, "x", "y")
				l = opened(t, d, "log")
				committed(t, l, "z")
				expectRecords(t, opened(t, d, "log"), 1, append(want, "x", "y", "z")...)
			}
		}
	}
}

// P27.6: during a Truncate, the segments are removed from the first one on.
func TestFailuresOfTruncates(t *testing.T) {
	for limit := range 4 {
		d := made(t, 1000)
		for k := range 5 {
			committed(t, opened(t, d, "log"), numbered(2*k+1, 2)...)
		}
		l := opened(t, d, "log")
		d.Limit(limit)
		expectErr(t, "Truncate", l.Truncate(100), api.ErrCrash)
		d.Start(nil)
		l = opened(t, d, "log")
		expectRecords(t, l, 2*limit+1, numbered(2*limit+1, 10-2*limit)...)
		expectSegments(t, l, "log", []int{1, 2, 3, 4, 5}[limit:]...)
	}
}

// P27.6: of a beginning of a segment, exactly the complete groups are found.
func TestBeginnings(t *testing.T) {
	d := made(t, 100000)
	l := opened(t, d, "log")
	ends := []int{0} // of the groups, in bytes
	sizes := []int{0}
	for k := range 6 {
		group := numbered(l.Last()+1, 1+2*k)
		group[0] = strings.Repeat("\x80", 100*(k%2))
		committed(t, l, group...)
		ends = append(ends, d.Used())
		sizes = append(sizes, l.Last())
	}
	all, _ := l.Replay(1)
	content, _ := d.Durable("log.000001")
	for size := range len(content) + 1 {
		c := made(t, 100000)
		c.Append("log.000001", content[:size])
		c.Sync("log.000001")
		groups := 0
		for groups < 6 && ends[groups+1] <= size {
			groups++
		}
		l := opened(t, c, "log")
		expectSegments(t, l, "log", 1)
		want := all[:sizes[groups]]
		expectRecords(t, l, 1, want...)
		committed(t, l, "further")
		expectSegments(t, l, "log", 1, 2)
		expectRecords(t, opened(t, c, "log"), 1, append(slices.Clone(want), "further")...)
	}
}

// P27.6: a group in which bytes are changed is not complete, nor are those behind it in its segment.
func TestDamage(t *testing.T) {
	d := made(t, 1000)
	l := opened(t, d, "log")
	committed(t, l, "a", "b")
	first := d.Used()
	committed(t, l, "cc", "", "d")
	second := d.Used()
	committed(t, l, "e")
	content, _ := d.Durable("log.000001")
	random := rand.New(rand.NewSource(27))
	for at := range len(content) {
		for range 20 {
			b := []byte(content)
			b[at] ^= byte(1 + random.Intn(255))
			c := made(t, 1000)
			c.Append("log.000001", string(b))
			c.Sync("log.000001")
			want := []string{"a", "b", "cc", "", "d"}
			if at < first {
				want = nil
			} else if at < second {
				want = want[:2]
			}
			expectRecords(t, opened(t, c, "log"), 1, want...)
		}
	}
	// A group that stands elsewhere is not closed by the right checksum.
	c := made(t, 1000)
	c.Append("log.000001", content[:first]+content[second:])
	c.Sync("log.000001")
	expectRecords(t, opened(t, c, "log"), 1, "a", "b")
}

// P1: whatever bytes a segment has, Open returns.
func TestGarbage(t *testing.T) {
	random := rand.New(rand.NewSource(28))
	for range 3000 {
		d := made(t, 1000)
		for k := range 3 {
			b := make([]byte, random.Intn(30))
			for i := range b {
				b[i] = byte(random.Intn(256))
				if random.Intn(3) > 0 {
					b[i] = byte(126 + random.Intn(6))
				}
			}
			file := fmt.Sprintf("log.%06d", k+1)
			d.Append(file, string(b))
			d.Sync(file)
		}
		l := opened(t, d, "log")
		expectRecords(t, l, 1)
		expectErr(t, "Truncate", l.Truncate(0), api.OK)
		expectSegments(t, l, "log", 3)
		committed(t, l, "a")
		expectRecords(t, opened(t, d, "log"), 1, "a")
	}
}

// P27.1, P27.6: files whose names are not those of segments are neither read nor changed.
func TestOtherFiles(t *testing.T) {
	d := made(t, 10000)
	others := []string{
		"log", "log.", "log.1", "log.00001", "log.0000001", "log.0000002", "log.000000", "log.1000000", "log.+00001", "log.-00001", "log.00000x",
		"log.000001x", "log.000001.", "log.0x0001", "log.1_0001", "log.00000!", "log000001", "log.a.000001", "Log.000001", "xlog.000001", "lo.000001", "log..000001", "log.99999999999999999999", "log.9223372036854275808", "000001",
	}
	for _, file := range others {
		expectErr(t, "Append", d.Append(file, "x"), api.OK)
	}
	l := opened(t, d, "log")
	expectRecords(t, l, 1)
	expectSegments(t, l, "log")
	for k := range 3 {
		committed(t, l, numbered(k+1, 1)...)
		l = opened(t, d, "log")
	}
	expectSegments(t, l, "log", 1, 2, 3)
	expectErr(t, "Truncate", l.Truncate(2), api.OK)
	expectRecords(t, opened(t, d, "log"), 3, numbered(3, 1)...)
	for _, file := range others {
		if data, e := d.Read(file); data != "x" || e != api.OK {
			t.Errorf("the file %s: %q, %d", file, data, e)
		}
	}
	if len(d.List()) != len(others)+1 {
		t.Errorf("the files: %v", d.List())
	}
}

// kept is what a log should have: its records, the number of the first one, and the numbers of the last records of its segments.
type kept struct {
	first   int
	records []string
	ends    []int
	groups  int // of the last segment; 8 behind Open
}

func newKept() kept { return kept{first: 1, groups: 8} }

func (k *kept) commit(records []string) {
	if len(records) == 0 {
		return
	}
	if k.groups == 8 {
		k.ends, k.groups = append(k.ends, 0), 0
	}
	k.groups++
	k.records = append(slices.Clone(k.records), records...)
	k.ends = slices.Clone(k.ends)
	k.ends[len(k.ends)-1] = k.first + len(k.records) - 1
}

// truncate removes at most so many segments.
func (k *kept) truncate(number, most int) {
	for len(k.ends) > 1 && k.ends[0] <= number && most > 0 {
		k.records = k.records[k.ends[0]+1-k.first:]
		k.first = k.ends[0] + 1
		k.ends = k.ends[1:]
		most--
	}
}

// matches reports whether a log has these records.
func (k kept) matches(l *wal.Log) bool {
	records, e := l.Replay(k.first)
	return e == api.OK && l.First() == k.first && slices.Equal(records, k.records)
}

// player uses several logs on one disk, and knows what they should have.
type player struct {
	t      *testing.T
	random *rand.Rand
	d      *disk.Disk
	names  []string
	logs   []*wal.Log
	want   []kept
	wait   [][]string
}

// open opens a log again.
func (p *player) open(i int) {
	p.logs[i] = opened(p.t, p.d, p.names[i])
	p.wait[i], p.want[i].groups = nil, 8
}

// start starts the disk again, and expects that one log has what it should have in one of several cases, and that all others are as they were.
func (p *player) start(i int, cases []kept) {
	p.t.Helper()
	var script []int
	for range 5 {
		script = append(script, p.random.Intn(200)-50)
	}
	p.d.Start(script)
	for k := range p.names {
		p.open(k)
	}
	for _, c := range cases {
		if c.matches(p.logs[i]) {
			p.want[i] = c
			p.want[i].groups = 8
			return
		}
	}
	p.t.Errorf("behind a failure, %s has the records from %d to %d", p.names[i], p.logs[i].First(), p.logs[i].Last())
}

func (p *player) commit(i int) {
	before := p.want[i]
	after := before
	after.commit(p.wait[i])
	last, e := p.logs[i].Commit()
	switch e {
	case api.OK:
		p.want[i], p.wait[i] = after, nil
		if last != after.first+len(after.records)-1 {
			p.t.Errorf("Commit: %d", last)
		}
	case api.ErrCrash:
		p.start(i, []kept{before, after})
	default:
		expectErr(p.t, "Commit", e, api.ErrFull)
	}
}

func (p *player) truncate(i int) {
	number := p.want[i].first + p.random.Intn(30)
	var cases []kept
	for most := range len(p.want[i].ends) + 1 {
		c := p.want[i]
		c.truncate(number, most)
		cases = append(cases, c)
	}
	switch e := p.logs[i].Truncate(number); e {
	case api.OK:
		p.want[i] = cases[len(cases)-1]
	default:
		expectErr(p.t, "Truncate", e, api.ErrCrash)
		p.start(i, cases)
	}
}

// step does something with a log.
func (p *player) step(i int) {
	switch choice := p.random.Intn(20); {
	case choice < 10:
		record := strings.Repeat(string(rune('a'+p.random.Intn(26))), p.random.Intn(20))
		waiting(p.t, p.logs[i], record)
		p.wait[i] = append(p.wait[i], record)
	case choice < 15:
		p.commit(i)
	case choice < 16:
		expectErr(p.t, "Discard", p.logs[i].Discard(), api.OK)
		p.wait[i] = nil
	case choice < 18:
		p.truncate(i)
	case choice < 19:
		p.d.Limit(p.random.Intn(8))
	default:
		p.open(i)
	}
}

// P27.6: logs with different names on one disk, with all that can happen, have what was committed.
func TestMany(t *testing.T) {
	random := rand.New(rand.NewSource(29))
	fulls := 0
	for range 40 {
		names := []string{"log", "lo", "log.000001", "log.0", "x"}
		p := &player{t, random, made(t, 200+random.Intn(4000)), names, make([]*wal.Log, 5), make([]kept, 5), make([][]string, 5)}
		for i := range names {
			p.want[i] = newKept()
			p.open(i)
		}
		for range 400 {
			p.step(random.Intn(len(names)))
			for i, l := range p.logs {
				if !p.want[i].matches(l) || l.Pending() != len(p.wait[i]) || len(l.Segments()) != len(p.want[i].ends) {
					t.Fatalf("%s has the records from %d to %d, %d wait, and the segments are %v", names[i], l.First(), l.Last(), l.Pending(), l.Segments())
				}
			}
		}
		if p.d.Used() > p.d.Capacity()-100 {
			fulls++
		}
	}
	if fulls == 0 {
		t.Error("no disk was full")
	}
}
