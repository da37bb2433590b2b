package critical_test

import (
	"fmt"
	"math"
	"math/rand"
	"reflect"
	"slices"
	"testing"

	"sleuth/api"
	"sleuth/critical"
)

// record returns a valid span of the trace 1, by the clock 1.
func record(id, parent, start, end int) api.Span {
	return api.Span{Trace: 1, Id: id, Parent: parent, Clock: 1, Kind: api.Internal, Service: "api", Operation: "get", Start: start, End: end}
}

// by returns a span timed by another clock, and of kind one of another kind.
func by(clock int, s api.Span) api.Span {
	s.Clock = clock
	return s
}

func of(kind int, s api.Span) api.Span {
	s.Kind = kind
	return s
}

// start and end return the events of a span of the trace 1.
func start(id int) api.Event { return api.Event{Span: api.Ref{Trace: 1, Id: id}} }
func end(id int) api.Event   { return api.Event{Span: api.Ref{Trace: 1, Id: id}, End: true} }

// segment returns a segment of a span of the trace 1.
func segment(id int, from, to api.Event) api.Segment {
	return api.Segment{Span: api.Ref{Trace: 1, Id: id}, From: from, To: to}
}

// question is what Walk asks.
type question struct{ x, y api.Event }

// earlier says what an answerer of questions says of events that are timed.
func earlier(times map[api.Event]int) func(x, y api.Event) bool {
	return func(x, y api.Event) bool { return times[x] < times[y] }
}

// timesOf returns the local times of all events of some spans.
func timesOf(l []api.Span) map[api.Event]int {
	times := map[api.Event]int{}
	for _, s := range l {
		r := api.Ref{Trace: s.Trace, Id: s.Id}
		times[api.Event{Span: r}], times[api.Event{Span: r, End: true}] = s.Start, s.End
	}
	return times
}

// walked returns what Walk returns, and what it asks.
func walked(l []api.Span, root int, before func(x, y api.Event) bool) ([]api.Segment, []question, api.Errno) {
	var asked []question
	path, f := critical.Walk(l, root, func(x, y api.Event) (bool, api.Errno) {
		asked = append(asked, question{x, y})
		return before(x, y), api.OK
	})
	return path, asked, f
}

func expectErr(t *testing.T, what string, got, want api.Errno) {
	t.Helper()
	if got != want {
		t.Errorf("%s: the error %d, want %d", what, got, want)
	}
}

func expectPath(t *testing.T, what string, got []api.Segment, f api.Errno, want []api.Segment, wantErr api.Errno) {
	t.Helper()
	if !slices.Equal(got, want) || f != wantErr {
		t.Errorf("%s: %v, %d; want %v, %d", what, got, f, want, wantErr)
	}
}

// P17.1: the first and the third example of the document, and their questions.
func TestWalk(t *testing.T) {
	l := []api.Span{record(3, 1, 30, 90), record(1, 0, 0, 100), record(2, 1, 10, 40)}
	path, asked, f := walked(l, 1, earlier(timesOf(l)))
	expectPath(t, "Walk", path, f, []api.Segment{
		segment(1, start(1), start(2)), segment(2, start(2), start(3)), segment(3, start(3), end(3)), segment(1, end(3), end(1)),
	}, api.OK)
	want := []question{
		{start(1), end(1)},
		{start(2), end(1)}, {start(1), end(2)}, {start(2), end(2)}, {end(2), end(1)},
		{start(3), end(1)}, {start(1), end(3)}, {start(3), end(3)}, {end(3), end(1)}, {end(2), end(3)},
		{start(1), start(3)}, {start(3), end(3)},
		{start(1), start(3)},
		{start(2), start(3)}, {start(1), end(2)}, {start(2), end(2)}, {end(2), start(3)},
		{start(1), start(2)}, {start(2), start(3)},
		{start(1), start(2)},
		{start(3), start(2)},
	}
	if !slices.Equal(asked, want) {
		t.Errorf("Walk asks %v, want %v", asked, want)
	}
	l[0].Kind = api.Consumer
	path, _, f = walked(l, 1, earlier(timesOf(l)))
	expectPath(t, "Walk", path, f, []api.Segment{segment(1, start(1), start(2)), segment(2, start(2), end(2)), segment(1, end(2), end(1))}, api.OK)
	path, asked, f = walked(l, 3, earlier(timesOf(l)))
	expectPath(t, "Walk of a child", path, f, []api.Segment{segment(3, start(3), end(3))}, api.OK)
	if !slices.Equal(asked, []question{{start(3), end(3)}}) {
		t.Errorf("Walk of a child asks %v", asked)
	}
}

// P17.1: spans of which one sees what they wait for.
func TestPaths(t *testing.T) {
	for _, c := range []struct {
		what string
		l    []api.Span
		want []api.Segment
	}{
		{"a span alone", []api.Span{record(1, 0, 3, 9)}, []api.Segment{segment(1, start(1), end(1))}},
		{"a span without a duration", []api.Span{record(1, 0, 3, 3), record(2, 1, 0, 9)}, nil},
		{"a child without a duration", []api.Span{record(1, 0, 0, 9), record(2, 1, 4, 4)}, []api.Segment{segment(1, start(1), end(1))}},
		{"a child as long", []api.Span{record(1, 0, 0, 9), record(2, 1, 0, 9)}, []api.Segment{segment(2, start(1), end(1))}},
		{"a child that is longer", []api.Span{record(1, 0, 3, 6), record(2, 1, 0, 9)}, []api.Segment{segment(2, start(1), end(1))}},
		{"a child before", []api.Span{record(1, 0, 3, 6), record(2, 1, 0, 3)}, []api.Segment{segment(1, start(1), end(1))}},
		{"a child behind", []api.Span{record(1, 0, 3, 6), record(2, 1, 6, 7)}, []api.Segment{segment(1, start(1), end(1))}},
		{"a child that begins before", []api.Span{record(1, 0, 3, 6), record(2, 1, 0, 4)}, []api.Segment{segment(2, start(1), end(2)), segment(1, end(2), end(1))}},
		{"a child that ends behind", []api.Span{record(1, 0, 3, 6), record(2, 1, 4, 9)}, []api.Segment{segment(1, start(1), start(2)), segment(2, start(2), end(1))}},
		{"children that end together", []api.Span{record(1, 0, 0, 9), record(2, 1, 3, 7), record(3, 1, 2, 7)}, []api.Segment{segment(1, start(1), start(3)), segment(3, start(3), start(2)), segment(2, start(2), end(2)), segment(1, end(2), end(1))}},
		{"children that end behind", []api.Span{record(1, 0, 0, 9), record(2, 1, 3, 11), record(3, 1, 2, 12)}, []api.Segment{segment(1, start(1), start(3)), segment(3, start(3), start(2)), segment(2, start(2), end(1))}},
		{"three children", []api.Span{record(1, 0, 0, 9), record(2, 1, 1, 3), record(3, 1, 2, 8), record(4, 1, 4, 6)}, []api.Segment{segment(1, start(1), start(2)), segment(2, start(2), start(3)), segment(3, start(3), end(3)), segment(1, end(3), end(1))}},
		{"a grandchild", []api.Span{record(1, 0, 0, 9), record(2, 1, 1, 8), record(3, 2, 2, 7)}, []api.Segment{segment(1, start(1), start(2)), segment(2, start(2), start(3)), segment(3, start(3), end(3)), segment(2, end(3), end(2)), segment(1, end(2), end(1))}},
		{"a grandchild that is longer", []api.Span{record(1, 0, 3, 6), record(2, 1, 2, 5), record(3, 2, 0, 9)}, []api.Segment{segment(3, start(1), end(2)), segment(1, end(2), end(1))}},
		{"the child of a consumer", []api.Span{record(1, 0, 0, 9), of(api.Consumer, record(2, 1, 1, 8)), record(3, 2, 2, 7)}, []api.Segment{segment(1, start(1), end(1))}},
		{"an orphan", []api.Span{record(1, 7, 0, 9), record(2, 1, 1, 8), record(3, 7, 0, 9)}, []api.Segment{segment(1, start(1), start(2)), segment(2, start(2), end(2)), segment(1, end(2), end(1))}},
		{"two roots", []api.Span{record(1, 0, 0, 9), record(2, 0, 1, 8)}, []api.Segment{segment(1, start(1), end(1))}},
	} {
		for range 2 {
			path, _, f := walked(c.l, 1, earlier(timesOf(c.l)))
			expectPath(t, c.what, path, f, c.want, api.OK)
			slices.Reverse(c.l)
		}
	}
}

// P17.1: which kinds block.
func TestKinds(t *testing.T) {
	for kind := api.Internal; kind <= api.Consumer; kind++ {
		l := []api.Span{of(api.Consumer, record(1, 0, 0, 9)), of(kind, record(2, 1, 0, 9))}
		id := 2
		if kind == api.Consumer {
			id = 1
		}
		path, _, f := walked(l, 1, earlier(timesOf(l)))
		expectPath(t, fmt.Sprint("the kind ", kind), path, f, []api.Segment{segment(id, start(1), end(1))}, api.OK)
	}
}

// P17.1: the errors in their order. Nothing is asked before them.
func TestWalkErrors(t *testing.T) {
	many := []api.Span{record(1, 1, 0, 9)}
	for id := 2; id <= api.MaxSpans; id++ {
		many = append(many, record(id, id-1, 0, 9))
	}
	circle := []api.Span{record(1, 0, 0, 9), record(2, 3, 0, 9), record(3, 2, 0, 9), record(4, 3, 0, 9), record(5, 5, 0, 9), record(6, 7, 0, 9), record(8, 6, 0, 9)}
	for _, c := range []struct {
		l    []api.Span
		root int
		f    api.Errno
	}{
		{nil, 1, api.ErrNotFound},
		{circle, 9, api.ErrNotFound},
		{circle, 0, api.ErrNotFound},
		{circle, 7, api.ErrNotFound},
		{circle, math.MinInt, api.ErrNotFound},
		{circle, 2, api.ErrCycle},
		{circle, 3, api.ErrCycle},
		{circle, 4, api.ErrCycle},
		{circle, 5, api.ErrCycle},
		{circle, 1, api.OK},
		{circle, 6, api.OK},
		{circle, 8, api.OK},
		{many, 1, api.ErrCycle},
		{many, api.MaxSpans, api.ErrCycle},
		{append(many, record(999, 0, 0, 9)), 1, api.ErrLimit},
		{append(many, record(999, 0, 0, 9)), 7777, api.ErrLimit},
	} {
		path, asked, f := walked(c.l, c.root, earlier(timesOf(c.l)))
		expectErr(t, fmt.Sprint("Walk of ", c.root), f, c.f)
		if c.f != api.OK && (len(path) > 0 || len(asked) > 0) {
			t.Errorf("Walk of %d: %v, asked %v", c.root, path, asked)
		}
	}
	many[0].Parent = 0
	path, _, f := walked(many, 1, earlier(timesOf(many)))
	expectPath(t, "the longest line of spans", path, f, []api.Segment{segment(api.MaxSpans, start(1), end(1))}, api.OK)
}

// someTrace returns spans below a root with the id 1, most of which run while their parents do. There may be others, that are cyclic or orphans.
func someTrace(random *rand.Rand) []api.Span {
	l := []api.Span{record(1, 0, 0, random.Intn(60))}
	for id := 2; id < 2+random.Intn(9); id++ {
		parent := l[random.Intn(len(l))]
		s := by(1+random.Intn(3), record(id, parent.Id, parent.Start+random.Intn(12)-2, 0))
		s.End = s.Start + random.Intn(12)
		s.Kind = 1 + random.Intn(5)
		if random.Intn(12) == 0 {
			s.Parent = 1 + random.Intn(12)
		}
		l = append(l, s)
	}
	random.Shuffle(len(l), func(i, j int) { l[i], l[j] = l[j], l[i] })
	return l
}

// document walks as the document says it, and notes what is asked.
type document struct {
	l      []api.Span
	before func(x, y api.Event) bool
	asked  []question
}

func (d *document) isBefore(x, y api.Event) bool {
	if x == y {
		return false
	}
	d.asked = append(d.asked, question{x, y})
	return d.before(x, y)
}

// candidate is a blocking child, and e(C).
type candidate struct {
	id    int
	until api.Event
}

// candidates returns the chosen candidate of the second step, if there is one.
func (d *document) candidates(s int, lo, cur api.Event) []candidate {
	var chosen []candidate
	for id := range 100 {
		isChild := func(c api.Span) bool { return c.Id == id && c.Parent == s && c.Kind != api.Consumer }
		if !slices.ContainsFunc(d.l, isChild) || !d.isBefore(start(id), cur) || !d.isBefore(lo, end(id)) || !d.isBefore(start(id), end(id)) {
			continue
		}
		c := candidate{id, cur}
		if d.isBefore(end(id), cur) {
			c.until = end(id)
		}
		if len(chosen) == 0 {
			chosen = []candidate{c}
		} else if d.isBefore(chosen[0].until, c.until) {
			chosen[0] = c
		}
	}
	return chosen
}

// path returns the segments of a walk, in increasing order of time.
func (d *document) path(s int, lo, hi api.Event) []api.Segment {
	var path []api.Segment
	cur := hi
step1:
	if !d.isBefore(lo, cur) {
		return path
	}
	chosen := d.candidates(s, lo, cur)
	if len(chosen) == 0 {
		return append([]api.Segment{segment(s, lo, cur)}, path...)
	}
	c := chosen[0]
	if c.until != cur {
		path = append([]api.Segment{segment(s, c.until, cur)}, path...)
	}
	b := lo
	if d.isBefore(lo, start(c.id)) {
		b = start(c.id)
	}
	path = append(d.path(c.id, b, c.until), path...)
	cur = b
	goto step1
}

// vague returns a function that says of many events neither that they are before one another, nor that they are not: the events are intervals of times.
func vague(random *rand.Rand, times map[api.Event]int) func(x, y api.Event) bool {
	latest := map[api.Event]int{}
	for id := range 100 {
		latest[start(id)] = times[start(id)] + random.Intn(5)
		latest[end(id)] = times[end(id)] + random.Intn(5)
	}
	return func(x, y api.Event) bool { return latest[x] < times[y] }
}

// P17.1: the walk of the document, with its questions, for many traces, and for functions that know all or some of the order.
func TestWalkMany(t *testing.T) {
	random := rand.New(rand.NewSource(1))
	segments := 0
	for k := range 3000 {
		l := someTrace(random)
		before := earlier(timesOf(l))
		if k%2 == 0 {
			before = vague(random, timesOf(l))
		}
		d := document{l: l, before: before}
		want := d.path(1, start(1), end(1))
		path, asked, f := walked(l, 1, before)
		expectPath(t, fmt.Sprint("Walk of ", l), path, f, want, api.OK)
		if !slices.Equal(asked, d.asked) {
			t.Errorf("Walk of %v asks %v, want %v", l, asked, d.asked)
		}
		segments += len(path)
	}
	if segments < 6000 {
		t.Errorf("there are %d segments only", segments)
	}
}

// P17.1: an error of the function ends the walk, and nothing more is asked.
func TestQuestionErrors(t *testing.T) {
	random := rand.New(rand.NewSource(2))
	for range 300 {
		l := someTrace(random)
		before := earlier(timesOf(l))
		_, asked, _ := walked(l, 1, before)
		for last := range asked {
			count, answer := 0, random.Intn(2) == 0
			path, f := critical.Walk(l, 1, func(x, y api.Event) (bool, api.Errno) {
				count++
				if count > last {
					return answer, api.ErrUndecided + api.Errno(count-last-1)
				}
				return before(x, y), api.OK
			})
			expectPath(t, "Walk with an error", path, f, nil, api.ErrUndecided)
			if count != last+1 {
				t.Errorf("Walk asks %d questions, the error is that of the question %d", count, last+1)
			}
		}
	}
}

// P17.6: the path does not depend on the order of the list.
func TestListOrder(t *testing.T) {
	random := rand.New(rand.NewSource(3))
	for range 300 {
		l := someTrace(random)
		before := earlier(timesOf(l))
		want, wantAsked, _ := walked(l, 1, before)
		random.Shuffle(len(l), func(i, j int) { l[i], l[j] = l[j], l[i] })
		path, asked, f := walked(l, 1, before)
		expectPath(t, "Walk of another order", path, f, want, api.OK)
		if !slices.Equal(asked, wantAsked) {
			t.Errorf("Walk of another order asks %v, want %v", asked, wantAsked)
		}
	}
}

// P1: functions that are missing, or panic.
func TestNoFunction(t *testing.T) {
	l := []api.Span{record(1, 0, 0, 9), record(2, 1, 2, 5)}
	path, f := critical.Walk(l, 1, nil)
	expectPath(t, "Walk without a function", path, f, nil, api.ErrArgument)
	path, f = critical.Walk(nil, 1, nil)
	expectPath(t, "Walk without a function", path, f, nil, api.ErrArgument)
	_, asked, _ := walked(l, 1, earlier(timesOf(l)))
	for last := range asked {
		count := 0
		path, f := critical.Walk(l, 1, func(x, y api.Event) (bool, api.Errno) {
			if count == last {
				panic("no answer")
			}
			count++
			return earlier(timesOf(l))(x, y), api.OK
		})
		expectPath(t, "Walk with a panic", path, f, nil, api.ErrArgument)
	}
}

// P1: functions that contradict themselves, or answer at random.
func TestStrangeFunctions(t *testing.T) {
	random := rand.New(rand.NewSource(4))
	for range 300 {
		l := someTrace(random)
		for _, before := range []func(x, y api.Event) bool{
			func(x, y api.Event) bool { return true },
			func(x, y api.Event) bool { return false },
			func(x, y api.Event) bool { return random.Intn(2) == 0 },
			func(x, y api.Event) bool { return random.Intn(9) > 0 },
			func(x, y api.Event) bool { return x.Span.Id%3 == (y.Span.Id+1)%3 },
		} {
			path, _, f := walked(l, 1, before)
			if f != api.OK && len(path) > 0 {
				t.Errorf("Walk: %v, %d", path, f)
			}
		}
	}
}

// P1: events that are before one another in a circle. An error of the function comes first.
func TestCircle(t *testing.T) {
	l := []api.Span{record(1, 0, 0, 9), record(2, 1, 2, 5), record(3, 1, 1, 6)}
	before := func(x, y api.Event) bool { return x != end(1) && y != start(1) }
	path, asked, f := walked(l, 1, before)
	expectPath(t, "Walk in a circle", path, f, nil, api.ErrConflict)
	for last := range asked {
		for _, answer := range []bool{false, true} {
			count := 0
			path, f := critical.Walk(l, 1, func(x, y api.Event) (bool, api.Errno) {
				count++
				if count > last {
					return answer, api.ErrUndecided
				}
				return before(x, y), api.OK
			})
			expectPath(t, "Walk in a circle", path, f, nil, api.ErrUndecided)
		}
	}
}

// P1: lists that are no traces.
func TestStrangeLists(t *testing.T) {
	zero, other := record(0, 0, 0, 9), record(2, 1, 1, 8)
	other.Trace = 2
	low := api.Span{Trace: math.MinInt, Id: math.MinInt, Parent: math.MinInt, Clock: 1, Kind: -1, Start: math.MaxInt, End: math.MinInt}
	for _, l := range [][]api.Span{
		{zero},
		{zero, record(1, 0, 0, 9)},
		{record(1, 0, 0, 9), record(2, 1, 1, 8), record(2, 1, 1, 8)},
		{record(1, 0, 0, 9), other, record(2, 1, 1, 8), record(3, 2, 2, 7)},
		{record(1, 0, 0, 9), record(1, 2, 0, 9), record(2, 1, 0, 9)},
		{low, {}, zero},
		{record(1, 0, 9, 0), record(2, 1, 8, 1)},
	} {
		v := []api.Offset{{Clock: 0}, {Clock: 1}}
		for _, root := range []int{math.MinInt, 0, 1, 2, 3} {
			walked(l, root, earlier(timesOf(l)))
			critical.Path(l, v, root)
			critical.Exclusive(l, v, root)
			critical.Self(l, v, root)
		}
	}
}

// Rules: arguments are not modified.
func TestIndependent(t *testing.T) {
	given := func() ([]api.Span, []api.Offset, []api.Segment) {
		l := append(make([]api.Span, 0, 4), record(3, 1, 30, 90), record(2, 1, 10, 40), record(1, 0, 0, 100))
		return l, []api.Offset{{Clock: 1, Value: 5}}, []api.Segment{segment(3, start(1), end(2)), segment(1, start(2), end(1))}
	}
	l, v, path := given()
	walked(l, 1, earlier(timesOf(l)))
	critical.Path(l, v, 1)
	critical.Exclusive(l, v, 1)
	critical.Self(l, v, 1)
	critical.Lengths(l, v, path)
	wantSpans, wantOffsets, wantPath := given()
	if !reflect.DeepEqual(l[:4], wantSpans[:4]) || !slices.Equal(v, wantOffsets) || !slices.Equal(path, wantPath) {
		t.Error("an argument was modified")
	}
}
