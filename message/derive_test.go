package message_test

import (
	"fmt"
	"math"
	"math/rand"
	"reflect"
	"slices"
	"testing"

	"sleuth/api"
	"sleuth/message"
	"sleuth/span"
)

// record returns a valid record, timed by a clock.
func record(id, parent, kind, clock, start, end int, links ...api.Ref) api.Span {
	return api.Span{Trace: 1, Id: id, Parent: parent, Kind: kind, Clock: clock, Start: start, End: end, Links: links, Service: "api", Operation: "get"}
}

// between returns a message between two spans of the trace 1.
func between(kind, a, b, from, to, sent, received int) api.Message {
	return api.Message{Kind: kind, A: ref(1, a), B: ref(1, b), From: from, To: to, Sent: sent, Received: received}
}

// changed returns a record with a change.
func changed(s api.Span, change func(s *api.Span)) api.Span {
	change(&s)
	return s
}

// P14.3: the first two examples of the document.
func TestExamples(t *testing.T) {
	p, c := record(1, 0, api.Client, 1, 10, 40), record(2, 1, api.Server, 2, 112, 130)
	there, back, link := between(1, 1, 2, 1, 2, 10, 112), between(2, 2, 1, 2, 1, 130, 40), between(3, 1, 2, 1, 2, 10, 112)
	expectMessages(t, "Of", message.Of([]api.Span{p, c}, nil), []api.Message{there, back})
	c.Links = []api.Ref{ref(1, 1)}
	expectMessages(t, "Of with a link", message.Of([]api.Span{c, p}, nil), []api.Message{there, back, link})
	p.Error = true
	expectMessages(t, "Of with an error", message.Of([]api.Span{c, p}, nil), []api.Message{there, link})
	if message.Bound(there) != 102 || message.Bound(back) != -90 {
		t.Errorf("Bound: %d, %d", message.Bound(there), message.Bound(back))
	}
}

// P14.3: spans without messages, parents that are absent, and kinds without a response.
func TestRequests(t *testing.T) {
	p, c := record(1, 0, api.Client, 1, 10, 40), record(2, 1, api.Server, 2, 112, 130)
	there, back := between(1, 1, 2, 1, 2, 10, 112), between(2, 2, 1, 2, 1, 130, 40)
	for _, l := range [][]api.Span{
		nil,
		{},
		{p},
		{c},
		{p, changed(c, func(s *api.Span) { s.Parent = 0 })},
		{p, changed(c, func(s *api.Span) { s.Parent = 2 })},
		{p, changed(c, func(s *api.Span) { s.Parent = 3 })},
		{p, changed(c, func(s *api.Span) { s.Trace = 2 })},
		{p, changed(c, func(s *api.Span) { s.Parent, s.Links = 0, []api.Ref{ref(1, 2), ref(1, 3), ref(2, 1)} })},
	} {
		expectMessages(t, fmt.Sprint("Of ", l), message.Of(l, nil), nil)
	}
	for kind := api.Internal; kind <= api.Consumer; kind++ {
		for other := api.Internal; other <= api.Consumer; other++ {
			p.Kind, c.Kind = kind, other
			want := []api.Message{there}
			if kind == api.Client && other == api.Server {
				want = append(want, back)
			}
			expectMessages(t, fmt.Sprint("Of the kinds ", kind, other), message.Of([]api.Span{p, c}, nil), want)
		}
	}
	p.Kind, c.Kind, c.Error = api.Client, api.Server, true
	expectMessages(t, "Of a child with an error", message.Of([]api.Span{p, c}, nil), []api.Message{there, back})
	// Two spans can be the parents of one another.
	p.Parent = 2
	expectMessages(t, "Of a cycle", message.Of([]api.Span{p, c}, nil), []api.Message{there, between(1, 2, 1, 2, 1, 112, 10), back})
}

// P14.3: records that are no winners count neither as spans, nor as parents, nor as linked spans.
func TestLosers(t *testing.T) {
	old := record(1, 0, api.Client, 1, 10, 40)
	late := changed(old, func(s *api.Span) { s.Revision, s.Clock, s.Start, s.End = 1, 7, 11, 41 })
	child := record(2, 1, api.Server, 2, 112, 130, ref(1, 1))
	moved := changed(child, func(s *api.Span) { s.Revision, s.Parent, s.Links = 1, 0, nil })
	expectMessages(t, "Of a late parent", message.Of([]api.Span{late, child, old}, nil), []api.Message{
		between(1, 1, 2, 7, 2, 11, 112), between(2, 2, 1, 2, 7, 130, 41), between(3, 1, 2, 7, 2, 11, 112),
	})
	expectMessages(t, "Of a child that moved", message.Of([]api.Span{child, moved, old}, nil), nil)
}

// P14.3: links into other traces, and several of one span.
func TestLinks(t *testing.T) {
	other := changed(record(3, 0, api.Producer, 4, 5, 6), func(s *api.Span) { s.Trace = 9 })
	first, s := record(1, 0, api.Producer, 1, 10, 40), record(2, 0, api.Consumer, 2, 7, 8, ref(1, 1), ref(1, 2), ref(1, 3), ref(9, 2), ref(9, 3))
	toOther := between(3, 3, 2, 4, 2, 5, 7)
	toOther.A.Trace = 9
	expectMessages(t, "Of", message.Of([]api.Span{s, other, first}, nil), []api.Message{between(3, 1, 2, 1, 2, 10, 7), toOther})
}

// P14.3: exchanges, in order, each once.
func TestExchanges(t *testing.T) {
	a, b := api.Exchange{From: 2, To: 1, Sent: 4, Received: 8, Least: 3}, api.Exchange{From: 1, To: 1, Sent: -4, Received: -8}
	want := []api.Message{exchange(1, 1, -4, -8, 0), exchange(2, 1, 4, 8, 3)}
	expectMessages(t, "Of", message.Of(nil, []api.Exchange{a, b, a}), want)
	p, c := record(1, 0, api.Client, 1, 10, 40), record(2, 1, api.Internal, 2, 112, 130)
	expectMessages(t, "Of", message.Of([]api.Span{c, p, c}, []api.Exchange{a, b}), append([]api.Message{between(1, 1, 2, 1, 2, 10, 112)}, want...))
}

// someRecords returns records of few traces, ids and clocks, some of them twice. Not all of them are valid.
func someRecords(random *rand.Rand) []api.Span {
	var l []api.Span
	for range random.Intn(9) {
		s := record(random.Intn(5), random.Intn(5), 1+random.Intn(5), 1+random.Intn(3), random.Intn(9), random.Intn(9))
		if random.Intn(2) == 0 {
			s.Kind = api.Client + s.Id%2
		}
		s.Trace, s.Revision, s.Error = 1+random.Intn(2), random.Intn(2), random.Intn(3) == 0
		for range random.Intn(4) {
			s.Links = append(s.Links, ref(1+random.Intn(2), random.Intn(5)))
		}
		l = append(l, s)
	}
	return append(l, l[:random.Intn(1+len(l))]...)
}

// someExchanges returns exchanges between few clocks, some of them twice.
func someExchanges(random *rand.Rand) []api.Exchange {
	var l []api.Exchange
	for range random.Intn(4) {
		l = append(l, api.Exchange{From: 1 + random.Intn(3), To: 1 + random.Intn(3), Sent: random.Intn(9), Received: random.Intn(9), Least: random.Intn(3)})
	}
	return append(l, l[:random.Intn(1+len(l))]...)
}

// isWinner reports whether no record of a list with the same identity is greater.
func isWinner(l []api.Span, s api.Span) bool {
	return !slices.ContainsFunc(l, func(o api.Span) bool { return o.Trace == s.Trace && o.Id == s.Id && span.Compare(o, s) > 0 })
}

// derived returns the messages of the definition, found by comparing each two records.
func derived(spans []api.Span, exchanges []api.Exchange) []api.Message {
	var l []api.Message
	add := func(kind int, a, b api.Span, sent, received int) {
		l = append(l, api.Message{Kind: kind, A: ref(a.Trace, a.Id), B: ref(b.Trace, b.Id), From: a.Clock, To: b.Clock, Sent: sent, Received: received})
	}
	for _, a := range spans {
		for _, b := range spans {
			if !isWinner(spans, a) || !isWinner(spans, b) {
				continue
			}
			if b.Parent != 0 && b.Parent != b.Id && a.Trace == b.Trace && a.Id == b.Parent {
				add(api.MessageRequest, a, b, a.Start, b.Start)
				if a.Kind == api.Client && !a.Error && b.Kind == api.Server {
					add(api.MessageResponse, b, a, b.End, a.End)
				}
			}
			if (a.Trace != b.Trace || a.Id != b.Id) && slices.Contains(b.Links, ref(a.Trace, a.Id)) {
				add(api.MessageLink, a, b, a.Start, b.Start)
			}
		}
	}
	for _, x := range exchanges {
		l = append(l, exchange(x.From, x.To, x.Sent, x.Received, x.Least))
	}
	return ordered(l)
}

// P14.3: the definitions, for random records and exchanges.
func TestOfMany(t *testing.T) {
	random := rand.New(rand.NewSource(3))
	for range 2000 {
		spans, exchanges := someRecords(random), someExchanges(random)
		want := derived(spans, exchanges)
		expectMessages(t, "Of", message.Of(spans, exchanges), want)
		for _, m := range want {
			if !message.Contains(spans, exchanges, m) {
				t.Errorf("Contains(%v, %v, %v) is false", spans, exchanges, m)
			}
			other := m
			*fields(&other)[random.Intn(10)] += 1 - 2*random.Intn(2)
			if message.Contains(spans, exchanges, other) != slices.Contains(want, other) {
				t.Errorf("Contains(%v, %v, %v)", spans, exchanges, other)
			}
		}
	}
}

// P14.3: Contains of each field.
func TestContains(t *testing.T) {
	spans := []api.Span{record(1, 0, api.Client, 1, 10, 40), record(2, 1, api.Server, 2, 112, 130)}
	exchanges := []api.Exchange{{From: 2, To: 1, Sent: 4, Received: 8, Least: 3}}
	for _, m := range []api.Message{between(1, 1, 2, 1, 2, 10, 112), between(2, 2, 1, 2, 1, 130, 40), exchange(2, 1, 4, 8, 3)} {
		if !message.Contains(spans, exchanges, m) || message.Contains(nil, nil, m) {
			t.Errorf("Contains of %v", m)
		}
		for k := range fields(&m) {
			other := m
			*fields(&other)[k]++
			if message.Contains(spans, exchanges, other) {
				t.Errorf("Contains of %v", other)
			}
		}
	}
}

// P14.9: neither order, nor repetitions, nor records that are no winners matter.
func TestOfMixed(t *testing.T) {
	random := rand.New(rand.NewSource(4))
	for range 500 {
		spans, exchanges := someRecords(random), someExchanges(random)
		want := message.Of(spans, exchanges)
		var mixed []api.Span
		for _, k := range random.Perm(len(spans)) {
			mixed = append(mixed, spans[k], spans[random.Intn(len(spans))])
		}
		expectMessages(t, "Of the mixed", message.Of(mixed, append(exchanges, exchanges...)), want)
		slices.Reverse(exchanges)
		expectMessages(t, "Of the winners", message.Of(span.Winners(spans), exchanges), want)
	}
}

// P14.9: further spans with new identities and further exchanges only add messages.
func TestOfMore(t *testing.T) {
	random := rand.New(rand.NewSource(5))
	for range 500 {
		spans, exchanges := someRecords(random), someExchanges(random)
		isOld := func(s api.Span) bool {
			_, isThere := span.Winner(spans, span.RefOf(s))
			return isThere
		}
		more := slices.DeleteFunc(someRecords(random), isOld)
		all := message.Of(append(more, spans...), append(someExchanges(random), exchanges...))
		for _, m := range message.Of(spans, exchanges) {
			if !slices.Contains(all, m) {
				t.Errorf("%v is no message any more", m)
			}
		}
	}
}

// fleet returns spans and exchanges that happened in true time, timed by clocks with the given offsets, from the clock 1 on.
func fleet(random *rand.Rand, offsets []int) ([]api.Span, []api.Exchange) {
	clock := func() int { return 1 + random.Intn(len(offsets)) }
	var truth, spans []api.Span
	for id := 1; id < 9; id++ {
		s := record(id, random.Intn(id), 1+random.Intn(5), clock(), random.Intn(20)-10, 0)
		s.Error = random.Intn(4) == 0
		s.End = s.Start + random.Intn(9)
		if s.Parent > 0 {
			parent := &truth[s.Parent-1]
			s.Start = parent.Start + random.Intn(9)
			s.End = s.Start + random.Intn(9)
			if parent.Kind == api.Client && !parent.Error && s.Kind == api.Server {
				s.Start = min(s.Start, parent.End)
				s.End = s.Start + random.Intn(parent.End-s.Start+1)
			}
		}
		if linked := 1 + random.Intn(8); linked < id && truth[linked-1].Start <= s.Start {
			s.Links = []api.Ref{ref(1, linked)}
		}
		truth = append(truth, s)
	}
	for _, s := range truth {
		offset := offsets[s.Clock-1]
		s.Start, s.End = s.Start+offset, s.End+offset
		spans = append(spans, s)
	}
	var exchanges []api.Exchange
	for range 3 {
		x := api.Exchange{From: clock(), To: clock(), Sent: random.Intn(20), Least: random.Intn(5)}
		x.Received = x.Sent + x.Least + random.Intn(3) + offsets[x.To-1] - offsets[x.From-1]
		exchanges = append(exchanges, x)
	}
	return spans, exchanges
}

// P14.9: the offsets of the clocks that timed everything satisfy all messages.
func TestTruth(t *testing.T) {
	random := rand.New(rand.NewSource(6))
	kinds := map[int]int{}
	for range 1500 {
		offsets := []int{random.Intn(50), -random.Intn(50), random.Intn(5000)}
		for _, m := range message.Of(fleet(random, offsets)) {
			kinds[m.Kind]++
			if offsets[m.To-1]-offsets[m.From-1] > message.Bound(m) {
				t.Errorf("the offsets %v do not satisfy %v", offsets, m)
			}
		}
	}
	for kind := api.MessageRequest; kind <= api.MessageExchange; kind++ {
		if kinds[kind] < 100 {
			t.Errorf("there are %d messages of the kind %d only", kinds[kind], kind)
		}
	}
}

// P1, P14.3: spans and exchanges that are not valid. The parent 0 is none, even if there is a span with the id 0.
func TestStrangeSpans(t *testing.T) {
	zero, child := record(0, 0, api.Client, 1, 1, 2), record(3, 0, api.Server, 2, 1, 2)
	expectMessages(t, "Of", message.Of([]api.Span{zero, child}, nil), nil)
	low := record(math.MinInt, 7, -4, math.MinInt, math.MinInt, math.MaxInt, ref(1, 7), ref(0, 0), ref(1, 7))
	high := record(7, math.MinInt, 99, math.MaxInt, math.MaxInt, math.MinInt, ref(1, math.MinInt))
	expectMessages(t, "Of", message.Of([]api.Span{low, high, {}}, []api.Exchange{{}, {From: math.MinInt, Least: -1}}), derived([]api.Span{low, high, {}}, []api.Exchange{{}, {From: math.MinInt, Least: -1}}))
}

// Rules: arguments are not modified.
func TestSpansIndependent(t *testing.T) {
	given := func() ([]api.Span, []api.Exchange) {
		p, c := record(1, 0, api.Client, 1, 10, 40), record(2, 1, api.Server, 2, 112, 130, ref(9, 9), ref(1, 1))
		return append(make([]api.Span, 0, 4), c, p, c), append(make([]api.Exchange, 0, 4), api.Exchange{From: 2}, api.Exchange{From: 1})
	}
	spans, exchanges := given()
	message.Contains(spans, exchanges, message.Of(spans, exchanges)[0])
	wantSpans, wantExchanges := given()
	if !reflect.DeepEqual(spans[:4], wantSpans[:4]) || !reflect.DeepEqual(exchanges[:4], wantExchanges[:4]) {
		t.Error("an argument was modified")
	}
}
