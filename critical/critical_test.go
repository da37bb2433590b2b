package critical_test

import (
	"fmt"
	"math"
	"math/rand"
	"slices"
	"testing"

	"sleuth/api"
	"sleuth/assembly"
	"sleuth/critical"
)

// assignment returns the offsets of a list of clocks and values.
func assignment(l ...int) []api.Offset {
	var v []api.Offset
	for k := 0; k < len(l); k += 2 {
		v = append(v, api.Offset{Clock: l[k], Value: l[k+1]})
	}
	return v
}

func expectInt(t *testing.T, what string, got int, f api.Errno, want int, wantErr api.Errno) {
	t.Helper()
	if got != want || f != wantErr {
		t.Errorf("%s: %d, %d; want %d, %d", what, got, f, want, wantErr)
	}
}

func expectLengths(t *testing.T, what string, got []int, f api.Errno, want []int, wantErr api.Errno) {
	t.Helper()
	if !slices.Equal(got, want) || f != wantErr {
		t.Errorf("%s: %v, %d; want %v, %d", what, got, f, want, wantErr)
	}
}

func expectShares(t *testing.T, what string, got []critical.Share, f api.Errno, want []critical.Share, wantErr api.Errno) {
	t.Helper()
	if !slices.Equal(got, want) || f != wantErr {
		t.Errorf("%s: %v, %d; want %v, %d", what, got, f, want, wantErr)
	}
}

// example returns the spans of the document's examples, timed by two clocks.
func example() []api.Span {
	return []api.Span{by(2, record(3, 1, 30, 90)), record(1, 0, 0, 100), record(2, 1, 10, 40)}
}

// P17.3 to P17.5: the examples of the document.
func TestExamples(t *testing.T) {
	l := example()
	consumer := example()
	consumer[0].Kind = api.Consumer
	for _, c := range []struct {
		l       []api.Span
		v       []api.Offset
		path    []api.Segment
		lengths []int
		shares  []critical.Share
		self    int
	}{
		{l, assignment(1, 0, 2, 0), []api.Segment{segment(1, start(1), start(2)), segment(2, start(2), start(3)), segment(3, start(3), end(3)), segment(1, end(3), end(1))}, []int{10, 20, 60, 10}, []critical.Share{{Id: 1, Time: 20}, {Id: 2, Time: 20}, {Id: 3, Time: 60}}, 20},
		{l, assignment(1, 0, 2, 20), []api.Segment{segment(1, start(1), start(3)), segment(3, start(3), end(3)), segment(1, end(3), end(1))}, []int{10, 60, 30}, []critical.Share{{Id: 1, Time: 40}, {Id: 3, Time: 60}}, 40},
		{consumer, assignment(1, 0, 2, 0), []api.Segment{segment(1, start(1), start(2)), segment(2, start(2), end(2)), segment(1, end(2), end(1))}, []int{10, 30, 60}, []critical.Share{{Id: 1, Time: 70}, {Id: 2, Time: 30}}, 70},
	} {
		for _, shift := range []int{0, 7, -50, -api.MaxTime} {
			v := slices.Clone(c.v)
			for k := range v {
				v[k].Value += shift
			}
			path, f := critical.Path(c.l, v, 1)
			expectPath(t, "Path", path, f, c.path, api.OK)
			lengths, f := critical.Lengths(c.l, v, path)
			expectLengths(t, "Lengths", lengths, f, c.lengths, api.OK)
			shares, f := critical.Exclusive(c.l, v, 1)
			expectShares(t, "Exclusive", shares, f, c.shares, api.OK)
			self, f := critical.Self(c.l, v, 1)
			expectInt(t, "Self", self, f, c.self, api.OK)
			self, f = critical.Self(c.l, v, 2)
			expectInt(t, "Self", self, f, 30, api.OK)
		}
	}
}

// P17.2: the errors of an assignment in their order, which all functions return first.
func TestCheck(t *testing.T) {
	l := example()
	for _, c := range []struct {
		v []api.Offset
		f api.Errno
	}{
		{assignment(1, 0, 2, 0), api.OK},
		{assignment(1, api.MaxTime, 2, -api.MaxTime), api.OK},
		{assignment(-4, 0, 0, 5, 1, 0, 2, 0, 9, 0), api.OK},
		{assignment(2, 0, 1, 0), api.ErrOrder},
		{assignment(1, 0, 1, 0, 2, 0), api.ErrOrder},
		{assignment(1, api.MaxTime+1, 7, 0, 7, 0), api.ErrOrder},
		{assignment(9, 0, 8, 0), api.ErrOrder},
		{assignment(1, api.MaxTime+1, 2, 0), api.ErrRange},
		{assignment(1, -api.MaxTime-1, 2, 0), api.ErrRange},
		{assignment(1, 0, 2, 0, 3, math.MinInt), api.ErrRange},
		{assignment(7, math.MaxInt), api.ErrRange},
		{nil, api.ErrGap},
		{assignment(1, 0), api.ErrGap},
		{assignment(2, 0), api.ErrGap},
		{assignment(1, 0, 3, 0), api.ErrGap},
		{assignment(0, 0, 1, 0), api.ErrGap},
	} {
		what := fmt.Sprint(" with ", c.v)
		expectErr(t, "Check"+what, critical.Check(l, c.v), c.f)
		if c.f == api.OK {
			continue
		}
		for _, id := range []int{1, 99} {
			time, f := critical.Time(l, c.v, start(id))
			expectInt(t, "Time"+what, time, f, 0, c.f)
			path, f := critical.Path(l, c.v, id)
			expectPath(t, "Path"+what, path, f, nil, c.f)
			lengths, f := critical.Lengths(l, c.v, []api.Segment{segment(1, start(1), end(id))})
			expectLengths(t, "Lengths"+what, lengths, f, nil, c.f)
			shares, f := critical.Exclusive(l, c.v, id)
			expectShares(t, "Exclusive"+what, shares, f, nil, c.f)
			self, f := critical.Self(l, c.v, id)
			expectInt(t, "Self"+what, self, f, 0, c.f)
		}
	}
	expectErr(t, "Check of no spans", critical.Check(nil, nil), api.OK)
	expectErr(t, "Check of no spans", critical.Check(nil, assignment(2, 0, 1, 0)), api.ErrOrder)
}

// P17.2: the time of an event is its local time less the offset.
func TestTime(t *testing.T) {
	v := assignment(1, 7, 2, -30)
	for _, c := range []struct {
		x    api.Event
		want int
		f    api.Errno
	}{
		{start(1), -7, api.OK},
		{end(1), 93, api.OK},
		{start(3), 60, api.OK},
		{end(3), 120, api.OK},
		{start(4), 0, api.ErrNotFound},
		{end(0), 0, api.ErrNotFound},
		{api.Event{Span: api.Ref{Trace: 2, Id: 1}}, 0, api.ErrNotFound},
		{api.Event{}, 0, api.ErrNotFound},
	} {
		time, f := critical.Time(example(), v, c.x)
		expectInt(t, fmt.Sprint("Time of ", c.x), time, f, c.want, c.f)
	}
	far := []api.Span{record(1, 0, -api.MaxTime, 0), by(2, record(2, 0, 0, api.MaxTime))}
	v = assignment(1, api.MaxTime, 2, -api.MaxTime)
	time, f := critical.Time(far, v, start(1))
	expectInt(t, "Time", time, f, -2*api.MaxTime, api.OK)
	time, f = critical.Time(far, v, end(2))
	expectInt(t, "Time", time, f, 2*api.MaxTime, api.OK)
}

// P17.3 to P17.5: the errors after those of the assignment.
func TestErrors(t *testing.T) {
	l, v := example(), assignment(1, 0, 2, 0)
	many := append(example(), make([]api.Span, api.MaxSpans-2)...)
	for k := range many[3:] {
		many[3+k] = record(10+k, 0, 0, 1)
	}
	for _, c := range []struct {
		l    []api.Span
		root int
		path api.Errno
		self api.Errno
	}{
		{l, 4, api.ErrNotFound, api.ErrNotFound},
		{nil, 1, api.ErrNotFound, api.ErrNotFound},
		{[]api.Span{record(1, 1, 0, 9)}, 1, api.ErrCycle, api.OK},
		{append(example(), record(5, 6, 0, 9), record(6, 5, 0, 9)), 6, api.ErrCycle, api.OK},
		{many, 1, api.ErrLimit, api.OK},
		{many, 9, api.ErrLimit, api.ErrNotFound},
		{many[1:], 1, api.OK, api.OK},
	} {
		path, f := critical.Path(c.l, v, c.root)
		expectErr(t, "Path", f, c.path)
		shares, f := critical.Exclusive(c.l, v, c.root)
		expectErr(t, "Exclusive", f, c.path)
		self, f := critical.Self(c.l, v, c.root)
		expectErr(t, "Self", f, c.self)
		if c.path != api.OK && (len(path) > 0 || len(shares) > 0) || c.self != api.OK && self != 0 {
			t.Errorf("of %d: %v, %v, %d", c.root, path, shares, self)
		}
	}
	for _, path := range [][]api.Segment{
		{segment(1, start(4), end(1))},
		{segment(1, start(1), end(4))},
		{segment(1, start(1), end(1)), segment(2, start(2), api.Event{Span: api.Ref{Trace: 2, Id: 2}, End: true})},
		{{}},
	} {
		lengths, f := critical.Lengths(l, v, path)
		expectLengths(t, fmt.Sprint("Lengths of ", path), lengths, f, nil, api.ErrNotFound)
	}
	// The span of a segment does not matter, nor the order of its events.
	lengths, f := critical.Lengths(l, assignment(1, 0, 2, 20), []api.Segment{segment(99, start(1), end(3)), segment(1, end(3), start(2)), segment(2, start(2), start(2))})
	expectLengths(t, "Lengths", lengths, f, []int{70, -60, 0}, api.OK)
	lengths, f = critical.Lengths(l, v, nil)
	expectLengths(t, "Lengths", lengths, f, nil, api.OK)
}

// P17.5: spans that are their own children, and cycles.
func TestSelfOfCycles(t *testing.T) {
	l := []api.Span{record(1, 1, 0, 9), of(api.Consumer, record(2, 2, 0, 9)), record(3, 4, 0, 9), record(4, 3, 2, 5)}
	for id, want := range []int{1: 0, 2: 9, 3: 6, 4: 0} {
		if id > 0 {
			self, f := critical.Self(l, assignment(1, 0), id)
			expectInt(t, fmt.Sprint("Self of ", id), self, f, want, api.OK)
		}
	}
}

// someAssignment returns an assignment of the clocks 1 to 3.
func someAssignment(random *rand.Rand) []api.Offset {
	return assignment(1, random.Intn(10), 2, random.Intn(10), 3, random.Intn(10))
}

// spanOf returns a span of a trace.
func spanOf(l []api.Span, id int) api.Span {
	return l[slices.IndexFunc(l, func(s api.Span) bool { return s.Id == id })]
}

// counted returns for how many ints a span is running, and none of its blocking children is.
func counted(l []api.Span, v []api.Offset, id int) int {
	time := func(x api.Event) int {
		time, _ := critical.Time(l, v, x)
		return time
	}
	count := 0
	for now := time(start(id)); now < time(end(id)); now++ {
		isBlocked := slices.ContainsFunc(l, func(s api.Span) bool {
			return s.Parent == id && s.Kind != api.Consumer && time(start(s.Id)) <= now && now < time(end(s.Id))
		})
		if !isBlocked {
			count++
		}
	}
	return count
}

// P17.3 to P17.6: many traces and assignments.
func TestMany(t *testing.T) {
	random := rand.New(rand.NewSource(5))
	for range 1500 {
		l, v := someTrace(random), someAssignment(random)
		for _, s := range l {
			self, f := critical.Self(l, v, s.Id)
			expectInt(t, fmt.Sprintf("Self of %d in %v", s.Id, l), self, f, counted(l, v, s.Id), api.OK)
		}
		times := map[api.Event]int{}
		for _, s := range l {
			times[start(s.Id)] = s.Start - v[s.Clock-1].Value
			times[end(s.Id)] = s.End - v[s.Clock-1].Value
		}
		path, f := critical.Path(l, v, 1)
		want, _, _ := walked(l, 1, earlier(times))
		expectPath(t, fmt.Sprintf("Path of %v with %v", l, v), path, f, want, api.OK)
		expectConsequences(t, l, v, times, path)
	}
}

// expectConsequences looks at what follows for the critical path of the span 1.
func expectConsequences(t *testing.T, l []api.Span, v []api.Offset, times map[api.Event]int, path []api.Segment) {
	t.Helper()
	root := spanOf(l, 1)
	lengths, f := critical.Lengths(l, v, path)
	expectErr(t, "Lengths", f, api.OK)
	now, total := times[start(1)], 0
	exclusive := map[int]int{}
	for k, s := range path {
		if times[s.From] != now || lengths[k] <= 0 || lengths[k] != times[s.To]-times[s.From] {
			t.Errorf("Path of %v: %v at %d, of the length %d", l, s, now, lengths[k])
		}
		now, total = times[s.To], total+lengths[k]
		exclusive[s.Span.Id] += lengths[k]
	}
	if total != root.End-root.Start || total > 0 && (path[0].From != start(1) || path[len(path)-1].To != end(1)) {
		t.Errorf("Path of %v: %v, which takes %d", l, path, total)
	}
	shares, f := critical.Exclusive(l, v, 1)
	expectErr(t, "Exclusive", f, api.OK)
	if len(shares) != len(exclusive) {
		t.Errorf("Exclusive of %v: %v, want %v", l, shares, exclusive)
	}
	below := assembly.Build(l, 1).Subtree(1)
	for k, s := range shares {
		self, _ := critical.Self(l, v, s.Id)
		if s.Time != exclusive[s.Id] || s.Time > self || k > 0 && s.Id <= shares[k-1].Id || !slices.Contains(below, s.Id) {
			t.Errorf("Exclusive of %v: %v, with %v", l, shares, s)
		}
	}
}

// P17.6: the path depends neither on the order of the list, nor on a number that is added to all offsets.
func TestSamePath(t *testing.T) {
	random := rand.New(rand.NewSource(6))
	for range 300 {
		l, v := someTrace(random), someAssignment(random)
		want, _ := critical.Path(l, v, 1)
		shares, _ := critical.Exclusive(l, v, 1)
		random.Shuffle(len(l), func(i, j int) { l[i], l[j] = l[j], l[i] })
		for k := range v {
			v[k].Value += 1000
		}
		path, f := critical.Path(l, v, 1)
		expectPath(t, "Path", path, f, want, api.OK)
		again, f := critical.Exclusive(l, v, 1)
		expectShares(t, "Exclusive", again, f, shares, api.OK)
	}
}
