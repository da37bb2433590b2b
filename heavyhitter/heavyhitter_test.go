package heavyhitter_test

import (
	"fmt"
	"math"
	"math/rand"
	"reflect"
	"slices"
	"strings"
	"testing"

	"sleuth/api"
	"sleuth/heavyhitter"
)

// counter returns a counter, and counters some that are given by keys and counts in turn.
func counter(key string, count int) heavyhitter.Counter {
	return heavyhitter.Counter{Key: key, Count: count}
}

func counters(l ...any) []heavyhitter.Counter {
	var made []heavyhitter.Counter
	for k := 0; k < len(l); k += 2 {
		made = append(made, counter(l[k].(string), l[k+1].(int)))
	}
	return made
}

// summary returns a summary with counters that are given by keys and counts in turn.
func summary(most, total, lost int, l ...any) heavyhitter.Summary {
	return heavyhitter.Summary{Most: most, Total: total, Lost: lost, Counters: counters(l...)}
}

// many returns so many counters with the count 1.
func many(size int) []heavyhitter.Counter {
	var l []heavyhitter.Counter
	for n := range size {
		l = append(l, counter(fmt.Sprintf("k%03d", n), 1))
	}
	return l
}

func expectErr(t *testing.T, what string, got, want api.Errno) {
	t.Helper()
	if got != want {
		t.Errorf("%s: the error %d, want %d", what, got, want)
	}
}

func expectInts(t *testing.T, what string, got []int, want ...int) {
	t.Helper()
	if !slices.Equal(got, want) {
		t.Errorf("%s: %v, want %v", what, got, want)
	}
}

func expectCounters(t *testing.T, what string, got, want []heavyhitter.Counter) {
	t.Helper()
	if !slices.Equal(got, want) {
		t.Errorf("%s: %v, want %v", what, got, want)
	}
}

// expectSummary compares two summaries field by field.
func expectSummary(t *testing.T, what string, got heavyhitter.Summary, e api.Errno, want heavyhitter.Summary, wantErr api.Errno) {
	t.Helper()
	expectErr(t, what, e, wantErr)
	expectInts(t, what, []int{got.Most, got.Total, got.Lost}, want.Most, want.Total, want.Lost)
	expectCounters(t, what, got.Counters, want.Counters)
}

// two returns both results of a function.
func two(a, b int) []int { return []int{a, b} }

// added returns the summary of a stream whose keys and weights are given in turn.
func added(t *testing.T, most int, l ...any) heavyhitter.Summary {
	t.Helper()
	s, e := heavyhitter.New(most)
	expectErr(t, "New", e, api.OK)
	for _, c := range counters(l...) {
		s, e = heavyhitter.Add(s, c.Key, c.Count)
		expectErr(t, "Add", e, api.OK)
	}
	return s
}

// P22.1: New.
func TestNew(t *testing.T) {
	for _, most := range []int{1, 2, 255, 256} {
		s, e := heavyhitter.New(most)
		expectSummary(t, "New", s, e, summary(most, 0, 0), api.OK)
		expectErr(t, "Check of New", heavyhitter.Check(s), api.OK)
	}
	for _, most := range []int{0, -1, 257, math.MinInt, math.MaxInt} {
		s, e := heavyhitter.New(most)
		expectSummary(t, fmt.Sprint("New of ", most), s, e, summary(0, 0, 0), api.ErrRange)
	}
	expectInts(t, "constants", two(heavyhitter.MaxCounters, heavyhitter.MaxTotal), 256, 1<<50)
}

// P22.1: valid summaries, and the errors of others.
func TestCheck(t *testing.T) {
	const most = 1 << 50
	long := strings.Repeat("k", 64)
	for _, c := range []struct {
		s heavyhitter.Summary
		e api.Errno
	}{
		{summary(1, 0, 0), api.OK},
		{summary(256, most, 0), api.OK},
		{summary(1, most, 0, "a", most), api.OK},
		{summary(1, most, most/2), api.OK},
		{summary(2, 6, 1, "a", 2, "b", 1), api.OK},
		{summary(2, 7, 1, "a", 2, "b", 1), api.OK},
		{summary(3, 6, 0, "!", 1, "a", 2, "~", 3), api.OK},
		{summary(3, 6, 0, "a", 1, "a!", 2, "b", 3), api.OK},
		{summary(1, 1, 0, long, 1), api.OK},
		{heavyhitter.Summary{Most: 256, Total: 256, Counters: many(256)}, api.OK},
		{heavyhitter.Summary{Most: 2, Counters: []heavyhitter.Counter{}}, api.OK},
		{heavyhitter.Summary{}, api.ErrRange},
		{summary(0, 0, 0), api.ErrRange},
		{summary(-1, 0, 0), api.ErrRange},
		{summary(257, 0, 0), api.ErrRange},
		{summary(math.MinInt, 0, 0), api.ErrRange},
		{summary(2, -1, 0), api.ErrRange},
		{summary(2, most+1, 0), api.ErrRange},
		{summary(2, 0, -1), api.ErrRange},
		{summary(2, 9, math.MinInt), api.ErrRange},
		{summary(1, 9, 0, "a", 1, "b", 1), api.ErrLimit},
		{heavyhitter.Summary{Most: 255, Total: 256, Counters: many(256)}, api.ErrLimit},
		{summary(2, 9, 0, "", 1), api.ErrName},
		{summary(2, 9, 0, "a b", 1), api.ErrName},
		{summary(2, 9, 0, "\x7f", 1), api.ErrName},
		{summary(2, 9, 0, long+"k", 1), api.ErrName},
		{summary(2, 9, 0, "b", 1, "a", 1), api.ErrOrder},
		{summary(2, 9, 0, "a", 1, "a", 1), api.ErrOrder},
		{summary(3, 9, 0, "a", 1, "c", 1, "b", 1), api.ErrOrder},
		{summary(2, 9, 0, "a", 0), api.ErrRange},
		{summary(2, 9, 0, "a", -1), api.ErrRange},
		{summary(2, 9, 0, "a", 10), api.ErrRange},
		{summary(2, 9, 0, "a", 1, "b", 10), api.ErrRange},
		{summary(2, 9, 0, "a", 5, "b", 5), api.ErrConflict},
		{summary(2, 5, 1, "a", 2, "b", 1), api.ErrConflict},
		{summary(2, 2, 1), api.ErrConflict},
		{summary(1, 9, 5), api.ErrConflict},
		{summary(1, most, math.MaxInt), api.ErrConflict},
		{summary(3, most, 1<<62), api.ErrConflict},
		{summary(255, 0, 1<<56), api.ErrConflict},
		{summary(2, 9, 4, "a", 9, "b", 9), api.ErrConflict},
		{summary(256, most, 0, "a", most, "b", most), api.ErrConflict},
		// The errors in their order.
		{summary(0, 9, 0, "a", 1), api.ErrRange},
		{summary(1, 9, -1, "a", 1, "b", 1), api.ErrRange},
		{summary(1, 9, 0, "", 0, "", 0), api.ErrLimit},
		{summary(2, 9, 0, "", 0), api.ErrName},
		{summary(2, 9, 0, "b", 1, " ", 1), api.ErrName},
		{summary(2, 9, 0, "b", 1, "a", 0), api.ErrOrder},
		{summary(3, 9, 0, "b", 1, "a", 1, "", 1), api.ErrOrder},
		{summary(2, 9, 0, "b", 0, "a", 1), api.ErrRange},
		{summary(2, 9, 9, "b", 9, "c", 0), api.ErrRange},
	} {
		expectErr(t, fmt.Sprintf("Check of %v", c.s), heavyhitter.Check(c.s), c.e)
	}
}

// Examples 1 and 2.
func TestExamples(t *testing.T) {
	s := added(t, 2, "a", 3, "b", 1, "c", 2)
	expectSummary(t, "the first example", s, api.OK, summary(2, 6, 1, "a", 2, "c", 1), api.OK)
	expectInts(t, "Bounds of b", two(heavyhitter.Bounds(s, "b")), 0, 1)
	expectInts(t, "Bounds of a", two(heavyhitter.Bounds(s, "a")), 2, 3)
	m, e := heavyhitter.Merge(added(t, 2, "a", 4, "b", 2), added(t, 2, "b", 1, "c", 3))
	expectSummary(t, "the second example", m, e, summary(2, 10, 3, "a", 1), api.OK)
}

// P22.2: what becomes of counters.
func TestAdd(t *testing.T) {
	const most = 1 << 50
	for _, c := range []struct {
		s      heavyhitter.Summary
		key    string
		weight int
		want   heavyhitter.Summary
	}{
		{summary(2, 0, 0), "b", 5, summary(2, 5, 0, "b", 5)},
		{summary(2, 5, 0, "b", 5), "b", 2, summary(2, 7, 0, "b", 7)},
		{summary(2, 5, 0, "b", 5), "a", 2, summary(2, 7, 0, "a", 2, "b", 5)},
		{summary(2, 5, 0, "b", 5), "c", 2, summary(2, 7, 0, "b", 5, "c", 2)},
		{summary(3, 9, 0, "b", 5, "d", 4), "c", 2, summary(3, 11, 0, "b", 5, "c", 2, "d", 4)},
		{summary(2, 9, 0, "b", 5, "d", 4), "b", 1, summary(2, 10, 0, "b", 6, "d", 4)},
		{summary(2, 9, 0, "b", 5, "d", 4), "d", 1, summary(2, 10, 0, "b", 5, "d", 5)},
		{summary(2, 9, 0, "b", 5, "d", 4), "c", 3, summary(2, 12, 3, "b", 2, "d", 1)},
		{summary(2, 9, 0, "b", 5, "d", 4), "c", 4, summary(2, 13, 4, "b", 1)},
		{summary(2, 9, 0, "b", 5, "d", 4), "c", 5, summary(2, 14, 4, "b", 1, "c", 1)},
		{summary(2, 9, 0, "b", 4, "d", 5), "a", 7, summary(2, 16, 4, "a", 3, "d", 1)},
		{summary(2, 8, 0, "b", 4, "d", 4), "c", 4, summary(2, 12, 4)},
		{summary(2, 8, 0, "b", 4, "d", 4), "c", 9, summary(2, 17, 4, "c", 5)},
		{summary(2, 20, 2, "b", 5, "d", 4), "c", 1, summary(2, 21, 3, "b", 4, "d", 3)},
		{summary(1, 2, 0, "b", 2), "a", 1, summary(1, 3, 1, "b", 1)},
		{summary(1, 2, 0, "b", 2), "a", 2, summary(1, 4, 2)},
		{summary(1, 4, 2), "a", 1, summary(1, 5, 2, "a", 1)},
		{summary(1, 0, 0), "a", 1 << 40, summary(1, 1<<40, 0, "a", 1<<40)},
		{summary(1, most-1<<40, 0, "a", 7), "a", 1 << 40, summary(1, most, 0, "a", 7+1<<40)},
		{summary(1, most-1, 0), strings.Repeat("~", 64), 1, summary(1, most, 0, strings.Repeat("~", 64), 1)},
	} {
		expectErr(t, "Check", heavyhitter.Check(c.s), api.OK)
		s, e := heavyhitter.Add(c.s, c.key, c.weight)
		expectSummary(t, fmt.Sprintf("Add of %s %d to %v", c.key, c.weight, c.s), s, e, c.want, api.OK)
		expectErr(t, "Check of Add", heavyhitter.Check(s), api.OK)
	}
}

// P22.2: the errors of Add in their order.
func TestAddErrors(t *testing.T) {
	const most = 1 << 50
	full := summary(1, most, 0, "a", 7)
	for _, c := range []struct {
		s      heavyhitter.Summary
		key    string
		weight int
		e      api.Errno
	}{
		{summary(1, 0, 0), "", 1, api.ErrName},
		{summary(1, 0, 0), "a b", 1, api.ErrName},
		{summary(1, 0, 0), "\x80", 1, api.ErrName},
		{summary(1, 0, 0), strings.Repeat("k", 65), 1, api.ErrName},
		{summary(1, 0, 0), "a", 0, api.ErrRange},
		{summary(1, 0, 0), "a", -1, api.ErrRange},
		{summary(1, 0, 0), "a", 1<<40 + 1, api.ErrRange},
		{summary(1, 0, 0), "a", math.MinInt, api.ErrRange},
		{summary(1, 0, 0), "a", math.MaxInt, api.ErrRange},
		{full, "a", 1, api.ErrOverflow},
		{full, "b", 1, api.ErrOverflow},
		{summary(1, most-4, 0, "a", 7), "a", 5, api.ErrOverflow},
		{full, "", 0, api.ErrName},
		{full, "", 1, api.ErrName},
		{full, "a", 0, api.ErrRange},
		{full, "a", 1<<40 + 1, api.ErrRange},
	} {
		s, e := heavyhitter.Add(c.s, c.key, c.weight)
		expectSummary(t, fmt.Sprintf("Add of %q %d to %v", c.key, c.weight, c.s), s, e, heavyhitter.Summary{}, c.e)
	}
}

// P22.3: what becomes of counters, whichever summary is the first one.
func TestMerge(t *testing.T) {
	const most = 1 << 50
	for _, c := range []struct{ a, b, want heavyhitter.Summary }{
		{summary(1, 0, 0), summary(1, 0, 0), summary(1, 0, 0)},
		{summary(2, 9, 1, "a", 4, "b", 2), summary(2, 0, 0), summary(2, 9, 1, "a", 4, "b", 2)},
		{summary(2, 9, 1, "a", 4, "b", 2), summary(2, 8, 2, "a", 1, "b", 1), summary(2, 17, 3, "a", 5, "b", 3)},
		{summary(3, 6, 0, "a", 4, "c", 2), summary(3, 4, 0, "b", 1, "c", 3), summary(3, 10, 0, "a", 4, "b", 1, "c", 5)},
		{summary(2, 6, 0, "a", 4, "b", 2), summary(2, 4, 0, "b", 1, "c", 3), summary(2, 10, 3, "a", 1)},
		{summary(2, 16, 1, "a", 4, "b", 2), summary(2, 14, 2, "b", 3, "c", 1), summary(2, 30, 4, "a", 3, "b", 4)},
		{summary(2, 7, 0, "a", 4, "b", 3), summary(2, 3, 0, "c", 2, "d", 1), summary(2, 10, 2, "a", 2, "b", 1)},
		{summary(2, 7, 0, "a", 4, "d", 3), summary(2, 8, 0, "b", 4, "c", 4), summary(2, 15, 4)},
		{summary(1, 4, 0, "a", 4), summary(1, 9, 0, "b", 9), summary(1, 13, 4, "b", 5)},
		{summary(1, 4, 0, "a", 4), summary(1, 4, 0, "b", 4), summary(1, 8, 4)},
		{summary(1, most-4, 0, "a", 4), summary(1, 4, 0, "a", 4), summary(1, most, 0, "a", 8)},
		{summary(256, most/2, 0, "a", 4), summary(256, most/2, 1, "b", 4), summary(256, most, 1, "a", 4, "b", 4)},
	} {
		expectErr(t, "Check", heavyhitter.Check(c.a), api.OK)
		expectErr(t, "Check", heavyhitter.Check(c.b), api.OK)
		s, e := heavyhitter.Merge(c.a, c.b)
		expectSummary(t, fmt.Sprintf("Merge of %v and %v", c.a, c.b), s, e, c.want, api.OK)
		expectErr(t, "Check of Merge", heavyhitter.Check(s), api.OK)
		s, e = heavyhitter.Merge(c.b, c.a)
		expectSummary(t, fmt.Sprintf("Merge of %v and %v", c.b, c.a), s, e, c.want, api.OK)
	}
}

// P22.3: the errors of Merge in their order.
func TestMergeErrors(t *testing.T) {
	const most = 1 << 50
	for _, c := range []struct {
		a, b heavyhitter.Summary
		e    api.Errno
	}{
		{summary(1, 0, 0), summary(2, 0, 0), api.ErrForm},
		{summary(256, 0, 0), summary(255, 0, 0), api.ErrForm},
		{summary(2, most, 0), summary(2, 1, 0), api.ErrOverflow},
		{summary(2, most, 0), summary(2, most, 0), api.ErrOverflow},
		{summary(2, most/2+1, 0, "a", 1), summary(2, most/2, 0, "a", 1), api.ErrOverflow},
		{summary(2, most, 0), summary(1, most, 0), api.ErrForm},
	} {
		s, e := heavyhitter.Merge(c.a, c.b)
		expectSummary(t, fmt.Sprintf("Merge of %v and %v", c.a, c.b), s, e, heavyhitter.Summary{}, c.e)
	}
}

// P22.4.
func TestBounds(t *testing.T) {
	s := summary(4, 99, 3, "a", 4, "b", 2, "d", 9)
	for _, c := range []struct {
		key       string
		low, high int
	}{{"a", 4, 7}, {"b", 2, 5}, {"d", 9, 12}, {"c", 0, 3}, {"A", 0, 3}, {"aa", 0, 3}, {"e", 0, 3}, {"", 0, 3}, {"\xff", 0, 3}} {
		expectInts(t, fmt.Sprintf("Bounds of %q", c.key), two(heavyhitter.Bounds(s, c.key)), c.low, c.high)
	}
	expectInts(t, "Bounds without counters", two(heavyhitter.Bounds(summary(1, 0, 0), "a")), 0, 0)
	expectInts(t, "Bounds of an exact count", two(heavyhitter.Bounds(summary(1, 9, 0, "a", 9), "a")), 9, 9)
	expectInts(t, "Bounds of the greatest count", two(heavyhitter.Bounds(summary(1, 1<<50, 0, "a", 1<<50), "a")), 1<<50, 1<<50)
}

// P22.5.
func TestRanks(t *testing.T) {
	s := summary(5, 99, 3, "a", 4, "b", 2, "c", 9, "d", 4, "e", 9)
	all := counters("c", 9, "e", 9, "a", 4, "d", 4, "b", 2)
	expectCounters(t, "Top", heavyhitter.Top(s), all)
	expectCounters(t, "Top of nothing", heavyhitter.Top(summary(5, 0, 0)), nil)
	for _, c := range []struct{ weight, guaranteed, possible int }{
		{math.MinInt, 5, -1}, {-1, 5, -1}, {0, 5, -1}, {1, 5, -1}, {2, 5, -1}, {3, 4, -1}, {4, 4, 5}, {5, 2, 5}, {6, 2, 4}, {7, 2, 4}, {8, 2, 2}, {9, 2, 2},
		{10, 0, 2}, {12, 0, 2}, {13, 0, 0}, {1 << 60, 0, 0}, {math.MaxInt, 0, 0},
	} {
		what := fmt.Sprint("the weight ", c.weight)
		expectCounters(t, "Guaranteed for "+what, heavyhitter.Guaranteed(s, c.weight), all[:c.guaranteed])
		l, e := heavyhitter.Possible(s, c.weight)
		if c.possible < 0 {
			expectErr(t, "Possible for "+what, e, api.ErrUndecided)
			expectCounters(t, "Possible for "+what, l, nil)
			continue
		}
		expectErr(t, "Possible for "+what, e, api.OK)
		expectCounters(t, "Possible for "+what, l, all[:c.possible])
	}
	exact := summary(1, 4, 0, "a", 4)
	l, e := heavyhitter.Possible(exact, 0)
	expectErr(t, "Possible for 0", e, api.ErrUndecided)
	expectCounters(t, "Possible for 0", l, nil)
	l, e = heavyhitter.Possible(exact, 1)
	expectErr(t, "Possible for 1", e, api.OK)
	expectCounters(t, "Possible for 1", l, counters("a", 4))
}

// P22.6.
func TestEqual(t *testing.T) {
	l := []heavyhitter.Summary{
		{}, summary(2, 0, 0), summary(3, 0, 0), summary(2, 9, 0), summary(2, 9, 1), summary(2, 9, 0, "a", 1), summary(2, 9, 0, "a", 2), summary(2, 9, 0, "b", 1),
		summary(2, 9, 0, "a", 1, "b", 1), summary(2, 9, 0, "b", 1, "a", 1), summary(-2, -9, -1, "", -1),
	}
	for i, a := range l {
		for j, b := range l {
			b.Counters = slices.Clone(b.Counters)
			if heavyhitter.Equal(a, b) != (i == j) {
				t.Errorf("Equal of %v and %v is not %v", a, b, i == j)
			}
		}
	}
	if !heavyhitter.Equal(summary(2, 0, 0), heavyhitter.Summary{Most: 2, Counters: []heavyhitter.Counter{}}) {
		t.Error("nil and empty lists are not equal")
	}
}

// model is a summary, kept as the terms say: counts of keys.
type model struct {
	most, total, lost int
	counts            map[string]int
}

func (m *model) lower(by int) {
	for key, n := range m.counts {
		if n <= by {
			delete(m.counts, key)
		} else {
			m.counts[key] = n - by
		}
	}
	m.lost += by
}

func (m *model) add(key string, weight int) {
	m.total += weight
	if m.counts[key] > 0 || len(m.counts) < m.most {
		m.counts[key] += weight
		return
	}
	d := weight
	for _, n := range m.counts {
		d = min(d, n)
	}
	m.lower(d)
	if weight > d {
		m.counts[key] = weight - d
	}
}

func (m *model) merge(o *model) {
	m.total, m.lost = m.total+o.total, m.lost+o.lost
	var all []int
	for key, n := range o.counts {
		m.counts[key] += n
	}
	for _, n := range m.counts {
		all = append(all, -n)
	}
	slices.Sort(all)
	if len(all) > m.most {
		m.lower(-all[m.most])
	}
}

func (m *model) summary() heavyhitter.Summary {
	s := summary(m.most, m.total, m.lost)
	for key, n := range m.counts {
		s.Counters = append(s.Counters, counter(key, n))
	}
	slices.SortFunc(s.Counters, func(a, b heavyhitter.Counter) int { return strings.Compare(a.Key, b.Key) })
	return s
}

// someStream returns a stream of few keys, some of them with great weights.
func someStream(r *rand.Rand, keys int) []heavyhitter.Counter {
	var l []heavyhitter.Counter
	for range r.Intn(30) {
		l = append(l, counter(string(rune('a'+r.Intn(1+r.Intn(keys)))), 1+r.Intn(1<<r.Intn(5))))
	}
	return l
}

// summarized returns the summary of a stream and its model. Parts of it are summarized apart and merged.
func summarized(t *testing.T, r *rand.Rand, most int, l []heavyhitter.Counter) (heavyhitter.Summary, *model) {
	t.Helper()
	if len(l) > 1 && r.Intn(2) == 0 {
		k := r.Intn(len(l))
		a, x := summarized(t, r, most, l[:k])
		b, y := summarized(t, r, most, l[k:])
		s, e := heavyhitter.Merge(a, b)
		x.merge(y)
		expectSummary(t, fmt.Sprintf("Merge of %v and %v", a, b), s, e, x.summary(), api.OK)
		back, e := heavyhitter.Merge(b, a)
		expectSummary(t, fmt.Sprintf("Merge of %v and %v", b, a), back, e, s, api.OK)
		return s, x
	}
	s, e := heavyhitter.New(most)
	expectErr(t, "New", e, api.OK)
	m := &model{most: most, counts: map[string]int{}}
	for _, c := range l {
		before := s
		s, e = heavyhitter.Add(before, c.Key, c.Count)
		m.add(c.Key, c.Count)
		expectSummary(t, fmt.Sprintf("Add of %v to %v", c, before), s, e, m.summary(), api.OK)
	}
	return s, m
}

// expectTrue expects what P22.7 says of the summary of a stream: bounds that contain the weights, and lists that follow from the bounds.
func expectTrue(t *testing.T, s heavyhitter.Summary, l []heavyhitter.Counter) {
	t.Helper()
	expectErr(t, fmt.Sprintf("Check of %v", s), heavyhitter.Check(s), api.OK)
	weights, total := map[string]int{}, 0
	for _, c := range l {
		weights[c.Key] += c.Count
		total += c.Count
	}
	expectInts(t, "Total", []int{s.Total}, total)
	if s.Lost > total/(s.Most+1) {
		t.Errorf("%v has lost too much", s)
	}
	for c := 'a'; c <= 'p'; c++ {
		key := string(c)
		low, high := heavyhitter.Bounds(s, key)
		if weights[key] < low || weights[key] > high {
			t.Errorf("the weight %d of %s is not from %d to %d in %v", weights[key], key, low, high, s)
		}
		if weights[key] > total/(s.Most+1) && low == 0 {
			t.Errorf("%s with the weight %d has no counter in %v", key, weights[key], s)
		}
		if len(weights) <= s.Most && (low != weights[key] || high != weights[key]) {
			t.Errorf("the count of %s in %v is not exact", key, s)
		}
		expectListed(t, s, key, weights[key])
	}
}

// expectListed expects a key among those that possibly have its weight, and among the guaranteed ones only if it has a weight.
func expectListed(t *testing.T, s heavyhitter.Summary, key string, weight int) {
	t.Helper()
	isKey := func(c heavyhitter.Counter) bool { return c.Key == key }
	if possible, e := heavyhitter.Possible(s, weight); e == api.OK && !slices.ContainsFunc(possible, isKey) {
		t.Errorf("%s cannot have its weight %d in %v", key, weight, s)
	}
	if slices.ContainsFunc(heavyhitter.Guaranteed(s, weight+1), isKey) {
		t.Errorf("%s has surely more than its weight %d in %v", key, weight, s)
	}
}

// P22.2, P22.3, P22.7 and P8: summaries are those of the terms, and true of the streams and of all their parts, merged in any order.
func TestStreams(t *testing.T) {
	r := rand.New(rand.NewSource(1))
	for range 3000 {
		l := someStream(r, 16)
		s, _ := summarized(t, r, 1+r.Intn(8), l)
		expectTrue(t, s, l)
		if t.Failed() {
			return
		}
	}
}

// P22.7: the order does not matter if no more than Most keys occur.
func TestOrders(t *testing.T) {
	r := rand.New(rand.NewSource(2))
	for range 500 {
		l := someStream(r, 6)
		s, _ := summarized(t, r, 6, l)
		r.Shuffle(len(l), func(i, j int) { l[i], l[j] = l[j], l[i] })
		shuffled, _ := summarized(t, r, 6, l)
		expectSummary(t, "another order", shuffled, api.OK, s, api.OK)
	}
}

// Large summaries with the greatest number of counters.
func TestLargeSummaries(t *testing.T) {
	s := heavyhitter.Summary{Most: 256, Total: 256, Counters: many(256)}
	more, e := heavyhitter.Add(s, "x", 5)
	expectSummary(t, "Add", more, e, summary(256, 261, 1, "x", 4), api.OK)
	other := heavyhitter.Summary{Most: 256, Total: 512, Counters: many(255)}
	for k := range other.Counters {
		other.Counters[k].Key += "b"
		other.Counters[k].Count = 2
	}
	both, e := heavyhitter.Merge(s, other)
	for k := range other.Counters {
		other.Counters[k].Count = 1
	}
	expectSummary(t, "Merge", both, e, heavyhitter.Summary{Most: 256, Total: 768, Lost: 1, Counters: other.Counters}, api.OK)
}

// Arguments are neither modified nor shared with results.
func TestArgumentsStay(t *testing.T) {
	a, b := summary(2, 20, 1, "a", 4, "b", 9), summary(2, 9, 0, "b", 1, "c", 3)
	change := func(l []heavyhitter.Counter) { clear(l[:cap(l)]) }
	use := func() {
		for _, key := range []string{"a", "c"} {
			s, _ := heavyhitter.Add(a, key, 6)
			change(s.Counters)
		}
		for _, o := range []heavyhitter.Summary{b, a, summary(2, 0, 0)} {
			s, _ := heavyhitter.Merge(a, o)
			change(s.Counters)
			s, _ = heavyhitter.Merge(o, a)
			change(s.Counters)
		}
		change(heavyhitter.Top(a))
		change(heavyhitter.Guaranteed(a, 1))
		l, _ := heavyhitter.Possible(a, 2)
		change(l)
	}
	use()
	if want := summary(2, 20, 1, "a", 4, "b", 9); !reflect.DeepEqual(a, want) {
		t.Errorf("changed: %v, want %v", a, want)
	}
	if want := summary(2, 9, 0, "b", 1, "c", 3); !reflect.DeepEqual(b, want) {
		t.Errorf("changed: %v, want %v", b, want)
	}
}

// P1: summaries that are not valid do no harm.
func TestInvalidSummaries(t *testing.T) {
	numbers := []int{math.MinInt, -1, 0, 1, 2, math.MaxInt}
	lists := [][]heavyhitter.Counter{nil, counters("a", 1, "a", 1), counters("", -1, "\xff", math.MaxInt, "a", math.MinInt), counters("b", 0, "a", 0, "c", 0), many(300)}
	for _, most := range numbers {
		for _, total := range numbers {
			for _, lost := range numbers {
				for _, l := range lists {
					s := heavyhitter.Summary{Most: most, Total: total, Lost: lost, Counters: l}
					useAll(s)
				}
			}
		}
	}
}

// useAll calls all functions with a summary.
func useAll(s heavyhitter.Summary) {
	heavyhitter.Check(s)
	heavyhitter.Add(s, "a", 1)
	heavyhitter.Add(s, "x", 1<<40)
	heavyhitter.Merge(s, s)
	heavyhitter.Merge(s, heavyhitter.Summary{Most: s.Most})
	heavyhitter.Bounds(s, "a")
	for _, weight := range []int{math.MinInt, 0, math.MaxInt} {
		heavyhitter.Guaranteed(s, weight)
		heavyhitter.Possible(s, weight)
	}
	heavyhitter.Top(s)
	heavyhitter.Equal(s, s)
}
