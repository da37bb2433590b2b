package certain_test

import (
	"fmt"
	"math"
	"slices"
	"testing"

	"sleuth/api"
	"sleuth/certain"
	"sleuth/skew"
)

// record returns a valid span of the trace 7.
func record(id, parent, clock, start, end int) api.Span {
	return api.Span{Trace: 7, Id: id, Parent: parent, Clock: clock, Kind: api.Internal, Service: "api", Operation: "get", Start: start, End: end}
}

// start and end return the events of a span of the trace 7.
func start(id int) api.Event { return api.Event{Span: api.Ref{Trace: 7, Id: id}} }
func end(id int) api.Event   { return api.Event{Span: api.Ref{Trace: 7, Id: id}, End: true} }

// segment returns a segment of a span of the trace 7.
func segment(id int, from, to api.Event) api.Segment {
	return api.Segment{Span: api.Ref{Trace: 7, Id: id}, From: from, To: to}
}

// bound returns an exchange that bounds the difference of two offsets.
func bound(from, to, most int) api.Message {
	return api.Message{Kind: api.MessageExchange, From: from, To: to, Received: most}
}

// bounds returns messages of a list of two clocks and a bound each.
func bounds(l ...int) []api.Message {
	var messages []api.Message
	for k := 0; k < len(l); k += 3 {
		messages = append(messages, bound(l[k], l[k+1], l[k+2]))
	}
	return messages
}

func evidenceOf(t *testing.T, messages []api.Message) *skew.Evidence {
	t.Helper()
	e, f := skew.New(messages)
	if f != api.OK {
		t.Fatalf("New(%v): %d", messages, f)
	}
	return e
}

// within returns bounds on both sides.
func within(low, high int) skew.Bounds {
	return skew.Bounds{Low: low, High: high, Below: true, Above: true}
}

func expectErr(t *testing.T, what string, got, want api.Errno) {
	t.Helper()
	if got != want {
		t.Errorf("%s: the error %d, want %d", what, got, want)
	}
}

func expectPath(t *testing.T, what string, got []api.Segment, f api.Errno, want []api.Segment, wantErr api.Errno) {
	t.Helper()
	if !slices.Equal(got, want) || f != wantErr {
		t.Errorf("%s: %v, %d; want %v, %d", what, got, f, want, wantErr)
	}
}

func expectAnswers(t *testing.T, what string, got []certain.Answer, f api.Errno, want []certain.Answer, wantErr api.Errno) {
	t.Helper()
	if !slices.Equal(got, want) || f != wantErr {
		t.Errorf("%s: %v, %d; want %v, %d", what, got, f, want, wantErr)
	}
}

func expectLengths(t *testing.T, what string, got []skew.Bounds, f api.Errno, want []skew.Bounds, wantErr api.Errno) {
	t.Helper()
	if !slices.Equal(got, want) || f != wantErr {
		t.Errorf("%s: %v, %d; want %v, %d", what, got, f, want, wantErr)
	}
}

func expectTotals(t *testing.T, what string, got []certain.Total, f api.Errno, want []certain.Total, wantErr api.Errno) {
	t.Helper()
	if !slices.Equal(got, want) || f != wantErr {
		t.Errorf("%s: %v, %d; want %v, %d", what, got, f, want, wantErr)
	}
}

// expectOpen compares what Undecided returns.
func expectOpen(t *testing.T, what string, e *skew.Evidence, l []api.Span, root int, x, y api.Event, ok bool, want api.Errno) {
	t.Helper()
	gotX, gotY, gotOk, f := certain.Undecided(e, l, root)
	if gotX != x || gotY != y || gotOk != ok || f != want {
		t.Errorf("%s: %v, %v, %v, %d; want %v, %v, %v, %d", what, gotX, gotY, gotOk, f, x, y, ok, want)
	}
}

// family returns the spans of the document's examples.
func family() []api.Span { return []api.Span{record(2, 1, 2, 210, 240), record(1, 0, 1, 0, 100)} }

// P18.2 to P18.5: the first example of the document.
func TestFirstExample(t *testing.T) {
	e, l := evidenceOf(t, bounds(1, 2, 205, 2, 1, -190)), family()
	path, f := certain.Path(e, l, 1)
	expectPath(t, "Path", path, f, []api.Segment{segment(1, start(1), start(2)), segment(2, start(2), end(2)), segment(1, end(2), end(1))}, api.OK)
	lengths, f := certain.Lengths(e, l, path)
	expectLengths(t, "Lengths", lengths, f, []skew.Bounds{within(5, 20), within(30, 30), within(50, 65)}, api.OK)
	totals, f := certain.Totals(e, l, 1)
	expectTotals(t, "Totals", totals, f, []certain.Total{{Id: 1, Low: 55, High: 85, Below: true, Above: true}, {Id: 2, Low: 30, High: 30, Below: true, Above: true}}, api.OK)
	answers, f := certain.Answers(e, l, 1)
	expectAnswers(t, "Answers", answers, f, []certain.Answer{
		{X: start(1), Y: end(1), Earlier: true}, {X: start(2), Y: end(1), Earlier: true}, {X: start(1), Y: end(2), Earlier: true},
		{X: start(2), Y: end(2), Earlier: true}, {X: end(2), Y: end(1), Earlier: true}, {X: start(1), Y: start(2), Earlier: true},
	}, api.OK)
	expectOpen(t, "Undecided", e, l, 1, api.Event{}, api.Event{}, false, api.OK)
}

// P18.2, P18.3: the second example of the document.
func TestSecondExample(t *testing.T) {
	e, l := evidenceOf(t, bounds(2, 1, -190)), family()
	path, f := certain.Path(e, l, 1)
	expectPath(t, "Path", path, f, nil, api.ErrUndecided)
	answers, f := certain.Answers(e, l, 1)
	expectAnswers(t, "Answers", answers, f, []certain.Answer{{X: start(1), Y: end(1), Earlier: true}, {X: start(2), Y: end(1), Earlier: true}}, api.OK)
	expectOpen(t, "Undecided", e, l, 1, start(1), end(2), true, api.OK)
	totals, f := certain.Totals(e, l, 1)
	expectTotals(t, "Totals", totals, f, nil, api.ErrUndecided)
}

// P18.1: what is certain about two events, and the errors in their order.
func TestEarlier(t *testing.T) {
	l := []api.Span{record(1, 0, 1, 0, 100), record(2, 1, 2, 10, 40), record(3, 1, 3, 0, 50), record(4, 1, 4, 0, 50), record(5, 1, 0, 0, 50), record(6, 1, 6, 100, 200)}
	// 2 is ahead of 1 by 0 to 5, 6 by exactly 100; 3 and 4 contradict one another.
	e := evidenceOf(t, bounds(1, 2, 5, 2, 1, 0, 3, 4, 0, 4, 3, -1, 1, 6, 100, 6, 1, -100))
	for _, c := range []struct {
		x, y api.Event
		want bool
		f    api.Errno
	}{
		{start(1), end(1), true, api.OK},
		{end(1), start(1), false, api.OK},
		{start(1), start(1), false, api.OK},
		{start(1), start(2), true, api.OK},
		{start(2), start(1), false, api.OK},
		{start(1), start(6), false, api.OK},
		{start(6), start(1), false, api.OK},
		{end(2), end(1), true, api.OK},
		{start(9), start(3), false, api.ErrNotFound},
		{start(3), end(9), false, api.ErrNotFound},
		{end(9), start(5), false, api.ErrNotFound},
		{api.Event{Span: api.Ref{Trace: 1, Id: 1}}, start(1), false, api.ErrNotFound},
		{start(1), api.Event{}, false, api.ErrNotFound},
		{start(3), start(1), false, api.ErrInfeasible},
		{start(1), start(4), false, api.ErrInfeasible},
		{start(3), end(3), false, api.ErrInfeasible},
		{start(3), start(3), false, api.ErrInfeasible},
		{start(1), start(5), false, api.ErrRange},
	} {
		got, f := certain.Earlier(e, l, c.x, c.y)
		if got != c.want || f != c.f {
			t.Errorf("Earlier(%v, %v): %v, %d; want %v, %d", c.x, c.y, got, f, c.want, c.f)
		}
		got, f = certain.Earlier(nil, l, c.x, c.y)
		if got || f != api.ErrArgument {
			t.Errorf("Earlier(%v, %v) without evidence: %v, %d", c.x, c.y, got, f)
		}
	}
}

// P18.1: true times that can be the same are no order; one of both directions can be certain nevertheless.
func TestEarlierBounds(t *testing.T) {
	l := []api.Span{record(1, 0, 1, 10, 20), record(2, 1, 2, 10, 20)}
	for _, c := range []struct {
		messages      []api.Message
		there, back   bool
		thereF, backF api.Errno
	}{
		{bounds(1, 2, -1), true, false, api.OK, api.OK},
		{bounds(1, 2, 0), false, false, api.ErrUndecided, api.OK},
		{bounds(1, 2, 1), false, false, api.ErrUndecided, api.ErrUndecided},
		{bounds(2, 1, -1), false, true, api.OK, api.OK},
		{bounds(2, 1, 0), false, false, api.OK, api.ErrUndecided},
		{bounds(1, 2, 0, 2, 1, 0), false, false, api.OK, api.OK},
		{bounds(1, 2, 0, 2, 1, 1), false, false, api.ErrUndecided, api.OK},
		{nil, false, false, api.ErrUndecided, api.ErrUndecided},
	} {
		e := evidenceOf(t, c.messages)
		there, f := certain.Earlier(e, l, start(1), start(2))
		back, g := certain.Earlier(e, l, start(2), start(1))
		if there != c.there || back != c.back || f != c.thereF || g != c.backF {
			t.Errorf("Earlier with %v: %v, %d and %v, %d", c.messages, there, f, back, g)
		}
	}
}

// P18.4: the errors of lengths, for the segments in order.
func TestLengths(t *testing.T) {
	l := []api.Span{record(1, 0, 1, 0, 100), record(2, 1, 2, 10, 40), record(3, 1, 3, 0, 50), record(4, 1, 4, 0, 50), record(5, 1, 0, 0, 50), record(6, 1, 6, 0, api.MaxTime+1)}
	e := evidenceOf(t, bounds(1, 2, 5, 3, 4, 0, 4, 3, -1))
	for _, c := range []struct {
		path []api.Segment
		want []skew.Bounds
		f    api.Errno
	}{
		{nil, nil, api.OK},
		{[]api.Segment{segment(1, start(1), end(1)), segment(9, end(1), start(1))}, []skew.Bounds{within(100, 100), within(-100, -100)}, api.OK},
		{[]api.Segment{segment(1, start(1), start(2)), segment(1, end(2), end(1)), segment(1, end(2), end(2))}, []skew.Bounds{{Low: 5, Below: true}, {High: 65, Above: true}, within(0, 0)}, api.OK},
		{[]api.Segment{segment(1, start(9), start(1))}, nil, api.ErrNotFound},
		{[]api.Segment{segment(1, start(1), start(9))}, nil, api.ErrNotFound},
		{[]api.Segment{segment(1, start(1), start(2)), segment(1, start(9), start(3))}, nil, api.ErrNotFound},
		{[]api.Segment{segment(1, start(1), start(3)), segment(1, start(9), start(1))}, nil, api.ErrInfeasible},
		{[]api.Segment{segment(1, start(9), start(1)), segment(1, start(1), start(3))}, nil, api.ErrNotFound},
		{[]api.Segment{segment(1, start(5), start(1))}, nil, api.ErrRange},
		{[]api.Segment{segment(1, start(1), end(6))}, nil, api.ErrTime},
	} {
		lengths, f := certain.Lengths(e, l, c.path)
		expectLengths(t, fmt.Sprint("Lengths of ", c.path), lengths, f, c.want, c.f)
		lengths, f = certain.Lengths(nil, l, c.path)
		expectLengths(t, "Lengths without evidence", lengths, f, nil, api.ErrArgument)
	}
}

// P18.5: a total is the sum over the segments of a span, in the order of the ids. What is on a certain path lies certainly between the start and the end of its span, so both bounds are there.
func TestTotals(t *testing.T) {
	l := []api.Span{record(9, 0, 1, 0, 100), record(4, 9, 2, 10, 40), record(5, 9, 3, 50, 70), record(3, 4, 3, 0, 10)}
	e := evidenceOf(t, bounds(1, 2, 5, 2, 1, 5, 1, 3, 1, 3, 1, 1))
	totals, f := certain.Totals(e, l, 9)
	expectTotals(t, "Totals", totals, f, nil, api.ErrUndecided)
	totals, f = certain.Totals(e, l[:3], 9)
	expectTotals(t, "Totals", totals, f, []certain.Total{
		{Id: 4, Low: 30, High: 30, Below: true, Above: true},
		{Id: 5, Low: 20, High: 20, Below: true, Above: true},
		{Id: 9, Low: 38, High: 62, Below: true, Above: true},
	}, api.OK)
	// The child 2 was over before its parent began, or began when that was over; nobody knows when, and nobody needs to.
	l = []api.Span{record(1, 0, 1, 0, 100), record(2, 1, 2, 0, 40), record(3, 2, 1, 90, 95), record(4, 1, 1, 0, 90)}
	for _, messages := range [][]api.Message{bounds(2, 1, -50), bounds(1, 2, -100)} {
		totals, f = certain.Totals(evidenceOf(t, messages), l, 1)
		expectTotals(t, "Totals", totals, f, []certain.Total{{Id: 1, Low: 10, High: 10, Below: true, Above: true}, {Id: 4, Low: 90, High: 90, Below: true, Above: true}}, api.OK)
	}
}

// P1, P18.2 to P18.6: the errors of all functions that walk, in their order.
func TestErrors(t *testing.T) {
	e := evidenceOf(t, bounds(3, 4, 0, 4, 3, -1))
	many := []api.Span{record(1, 1, 1, 0, 9)}
	for id := 2; id <= api.MaxSpans; id++ {
		many = append(many, record(id, 1, 1, 0, 9))
	}
	open := []api.Span{record(1, 0, 1, 0, 9), record(2, 1, 2, 0, 9)}
	for _, c := range []struct {
		what string
		e    *skew.Evidence
		l    []api.Span
		root int
		f    api.Errno
	}{
		{"no evidence", nil, append(many, record(999, 0, 1, 0, 9)), 1000, api.ErrArgument},
		{"no evidence", nil, nil, 0, api.ErrArgument},
		{"too many spans", e, append(many, record(999, 0, 1, 0, 9)), 1000, api.ErrLimit},
		{"too many spans", e, append(many, record(999, 0, 1, 0, 9)), 1, api.ErrLimit},
		{"no span", e, many, 999, api.ErrNotFound},
		{"no span", e, nil, 1, api.ErrNotFound},
		{"no span", e, open, math.MinInt, api.ErrNotFound},
		{"a circle", e, many, 1, api.ErrCycle},
		{"a circle", e, many, 7, api.ErrCycle},
		{"a contradiction", e, []api.Span{record(1, 0, 3, 0, 9)}, 1, api.ErrInfeasible},
		{"a contradiction after a question that is answered", e, []api.Span{record(1, 0, 1, 0, 9), record(2, 1, 4, 0, 9)}, 1, api.ErrInfeasible},
		{"a question that is open", e, open, 1, api.ErrUndecided},
	} {
		expectFailure(t, c.what, c.e, c.l, c.root, c.f)
	}
}

// expectFailure calls all functions that walk.
func expectFailure(t *testing.T, what string, e *skew.Evidence, l []api.Span, root int, want api.Errno) {
	t.Helper()
	path, f := certain.Path(e, l, root)
	expectPath(t, "Path of "+what, path, f, nil, want)
	totals, f := certain.Totals(e, l, root)
	expectTotals(t, "Totals of "+what, totals, f, nil, want)
	decisions, f := certain.Decisions(e, l, root)
	expectFacts(t, "Decisions of "+what, decisions, f, nil, want)
	fact, f := certain.Fact(e, l, root)
	expectFacts(t, "Fact of "+what, []api.Fact{fact}, f, []api.Fact{{}}, want)
	if want == api.ErrUndecided {
		return
	}
	answers, f := certain.Answers(e, l, root)
	expectAnswers(t, "Answers of "+what, answers, f, nil, want)
	expectOpen(t, "Undecided of "+what, e, l, root, api.Event{}, api.Event{}, false, want)
}

// P18.7: if all spans have one clock, the path is certain, whatever the evidence is.
func TestOneClock(t *testing.T) {
	l := []api.Span{record(1, 0, 5, 0, 100), record(2, 1, 5, 10, 40), record(3, 1, 5, 30, 90), record(4, 3, 5, 90, 90), record(6, 0, 5, 3, 3)}
	want := []api.Segment{segment(1, start(1), start(2)), segment(2, start(2), start(3)), segment(3, start(3), end(3)), segment(1, end(3), end(1))}
	for _, e := range []*skew.Evidence{{}, evidenceOf(t, nil), evidenceOf(t, bounds(1, 2, 0, 2, 1, -1, 5, 4, 6))} {
		path, f := certain.Path(e, l, 1)
		expectPath(t, "Path", path, f, want, api.OK)
		totals, f := certain.Totals(e, l, 1)
		expectTotals(t, "Totals", totals, f, []certain.Total{
			{Id: 1, Low: 20, High: 20, Below: true, Above: true},
			{Id: 2, Low: 20, High: 20, Below: true, Above: true},
			{Id: 3, Low: 60, High: 60, Below: true, Above: true},
		}, api.OK)
		decisions, f := certain.Decisions(e, l, 1)
		expectFacts(t, "Decisions", decisions, f, nil, api.OK)
		fact, f := certain.Fact(e, l, 1)
		expectFacts(t, "Fact", []api.Fact{fact}, f, []api.Fact{{Kind: api.FactPath, A: start(1), Path: want}}, api.OK)
		fact, f = certain.Fact(e, l[:1], 1)
		expectFacts(t, "Fact", []api.Fact{fact}, f, []api.Fact{{Kind: api.FactPath, A: start(1), Path: []api.Segment{segment(1, start(1), end(1))}}}, api.OK)
		fact, f = certain.Fact(e, l, 6)
		expectFacts(t, "Fact", []api.Fact{fact}, f, []api.Fact{{Kind: api.FactPath, A: start(6)}}, api.OK)
		answers, f := certain.Answers(e, l, 6)
		expectAnswers(t, "Answers", answers, f, []certain.Answer{{X: start(6), Y: end(6)}}, api.OK)
	}
}
