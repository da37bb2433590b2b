package queue_test

import (
	"fmt"
	"math"
	"reflect"
	"slices"
	"strings"
	"testing"

	"sleuth/api"
	"sleuth/queue"
)

// made returns a queue with limits.
func made(t *testing.T, items, perAgent, lease int) *queue.Queue {
	t.Helper()
	q, e := queue.New(queue.Limits{Items: items, PerAgent: perAgent, Lease: lease})
	if e != api.OK || q == nil {
		t.Fatalf("New of %d, %d, %d: %v, %d", items, perAgent, lease, q, e)
	}
	return q
}

// id returns an identity.
func id(agent, seq int) queue.Id { return queue.Id{Agent: agent, Seq: seq} }

// ids returns identities from their numbers one after another.
func ids(numbers ...int) []queue.Id {
	var l []queue.Id
	for pair := range slices.Chunk(numbers, 2) {
		l = append(l, id(pair[0], pair[1]))
	}
	return l
}

// some returns a fragment with contents that depend on its identity.
func some(agent, seq int) api.Fragment {
	span := api.Span{
		Trace: agent, Id: seq + 1, Service: "api", Start: seq, End: seq + 1,
		Attrs: []api.Attr{{Key: "a", Value: api.Value{Kind: api.KindInt, Int: seq}}},
		Links: []api.Ref{{Trace: agent, Id: 7}},
	}
	return api.Fragment{Agent: agent, Seq: seq, Spans: []api.Span{span, {Trace: 1}}, Exchanges: []api.Exchange{{From: 1, To: 2, Sent: seq}}}
}

// expectErr expects an error.
func expectErr(t *testing.T, what string, got, want api.Errno) {
	t.Helper()
	if got != want {
		t.Errorf("%s: the error %d, want %d", what, got, want)
	}
}

// offered offers fragments with these identities.
func offered(t *testing.T, q *queue.Queue, l ...queue.Id) {
	t.Helper()
	for _, i := range l {
		expectErr(t, fmt.Sprint("Offer of ", i), q.Offer(some(i.Agent, i.Seq)), api.OK)
	}
}

// expectState expects which fragments wait, and the numbers of the tickets that are open.
func expectState(t *testing.T, q *queue.Queue, waiting []queue.Id, tickets ...int) {
	t.Helper()
	var got []int
	for _, ticket := range q.Leased() {
		got = append(got, ticket.Number)
	}
	if w := q.Waiting(); !slices.Equal(w, waiting) || !slices.Equal(got, tickets) || q.Len() != len(waiting)+len(tickets) {
		t.Errorf("%v wait, and the tickets are %v, of %d fragments; want %v and %v", w, got, q.Len(), waiting, tickets)
	}
}

// expectEqual expects whether two queues are equal.
func expectEqual(t *testing.T, what string, a, b *queue.Queue, want bool) {
	t.Helper()
	if a.Equal(b) != want || b.Equal(a) != want {
		t.Errorf("Equal, %s: %v, %v; want %v", what, a.Equal(b), b.Equal(a), want)
	}
}

// P28.1: the limits of queues, and the error.
func TestNew(t *testing.T) {
	for _, c := range []struct {
		items, perAgent, lease int
		want                   api.Errno
	}{
		{1, 1, 1, api.OK},
		{4096, 4096, 1 << 20, api.OK},
		{4096, 1, 1, api.OK},
		{2, 2, 5, api.OK},
		{0, 0, 1, api.ErrRange},
		{0, 1, 1, api.ErrRange},
		{4097, 1, 1, api.ErrRange},
		{-1, 1, 1, api.ErrRange},
		{2, 0, 1, api.ErrRange},
		{2, -1, 1, api.ErrRange},
		{2, 3, 1, api.ErrRange},
		{4096, 4097, 1, api.ErrRange},
		{2, 2, 0, api.ErrRange},
		{2, 2, 1<<20 + 1, api.ErrRange},
		{2, 2, -1, api.ErrRange},
		{math.MaxInt, math.MaxInt, math.MaxInt, api.ErrRange},
		{math.MinInt, math.MinInt, math.MinInt, api.ErrRange},
	} {
		q, e := queue.New(queue.Limits{Items: c.items, PerAgent: c.perAgent, Lease: c.lease})
		expectErr(t, fmt.Sprint("New of ", c.items, " ", c.perAgent, " ", c.lease), e, c.want)
		if (q != nil) != (c.want == api.OK) {
			t.Errorf("New: %v with the error %d", q, e)
		}
		if q != nil {
			expectState(t, q, nil)
			if q.Now() != 0 {
				t.Errorf("the present of a new queue: %d", q.Now())
			}
		}
	}
}

// P28.2: the errors, in their order, which change nothing.
func TestOfferErrors(t *testing.T) {
	q := made(t, 4, 2, 10)
	offered(t, q, ids(5, 0, 5, 1, 1, 1<<20)...)
	_, _, e := q.Lease(0)
	expectErr(t, "Lease", e, api.OK)
	before := q.Clone()
	for _, c := range []struct {
		agent, seq int
		want       api.Errno
	}{
		{0, 0, api.ErrRange},
		{-5, 0, api.ErrRange},
		{1<<20 + 1, 0, api.ErrRange},
		{5, -1, api.ErrRange},
		{5, 1<<20 + 1, api.ErrRange},
		{math.MinInt, math.MaxInt, api.ErrRange},
		{math.MaxInt, 0, api.ErrRange},
		{5, 0, api.ErrDuplicate},
		{5, 1, api.ErrDuplicate},
		{1, 1 << 20, api.ErrDuplicate},
		{5, 2, api.ErrFull},
		{5, 1 << 20, api.ErrFull},
	} {
		expectErr(t, fmt.Sprint("Offer of ", c.agent, ".", c.seq), q.Offer(some(c.agent, c.seq)), c.want)
	}
	expectEqual(t, "behind errors", q, before, true)
	// Limits of all fragments, and of those of an agent.
	offered(t, q, id(1<<20, 0))
	expectErr(t, "Offer", q.Offer(some(1<<20, 1)), api.ErrFull)
	expectErr(t, "Offer", q.Offer(some(7, 0)), api.ErrFull)
	expectErr(t, "Offer", q.Offer(some(5, 0)), api.ErrDuplicate)
	expectErr(t, "Offer", q.Offer(some(0, 0)), api.ErrRange)
	expectErr(t, "Ack", q.Ack(1), api.OK)
	offered(t, q, id(7, 0))
	expectErr(t, "Offer", q.Offer(some(1, 1<<20)), api.ErrFull)
}

// P28.2: a fragment that was acknowledged can be offered again, and spans are not looked at.
func TestOffer(t *testing.T) {
	for _, f := range []api.Fragment{
		{Agent: 1},
		{Agent: 1, Seq: 1, Spans: make([]api.Span, api.MaxRecords+1), Exchanges: make([]api.Exchange, api.MaxRecords+1)},
		{Agent: 1, Seq: 2, Spans: []api.Span{{Trace: -1, Kind: 9, Service: strings.Repeat("é", api.MaxText), Attrs: make([]api.Attr, api.MaxRecords+1)}, {}}},
	} {
		q := made(t, 1, 1, 10)
		expectErr(t, "Offer", q.Offer(f), api.OK)
		ticket, got, e := q.Lease(0)
		expectErr(t, "Lease", e, api.OK)
		if !reflect.DeepEqual(got, f) || ticket.Id != id(1, f.Seq) {
			t.Errorf("Lease: the ticket %v, and another fragment", ticket)
		}
		expectErr(t, "Offer", q.Offer(f), api.ErrDuplicate)
		expectErr(t, "Ack", q.Ack(ticket.Number), api.OK)
		expectErr(t, "Offer", q.Offer(f), api.OK)
		expectState(t, q, ids(1, f.Seq))
	}
}

// P28.3: the credit of agents.
func TestCredit(t *testing.T) {
	q := made(t, 5, 3, 10)
	expectCredits := func(want ...int) {
		t.Helper()
		for i, agent := range []int{1, 2, 1 << 20} {
			if got := q.Credit(agent); got != want[i] {
				t.Errorf("Credit of %d: %d, want %d", agent, got, want[i])
			}
		}
		for _, agent := range []int{0, -1, 1<<20 + 1, math.MinInt, math.MaxInt} {
			if got := q.Credit(agent); got != 0 {
				t.Errorf("Credit of %d: %d", agent, got)
			}
		}
	}
	expectCredits(3, 3, 3)
	offered(t, q, id(1, 0))
	expectCredits(2, 3, 3)
	offered(t, q, id(2, 0))
	expectCredits(2, 2, 3)
	offered(t, q, id(2, 9))
	expectCredits(2, 1, 2)
	offered(t, q, id(1, 1))
	expectCredits(1, 1, 1)
	// What is leased counts.
	_, _, e := q.Lease(0)
	expectErr(t, "Lease", e, api.OK)
	expectCredits(1, 1, 1)
	offered(t, q, id(2, 1))
	expectCredits(0, 0, 0)
	expectErr(t, "Release", q.Release(1), api.OK)
	expectCredits(0, 0, 0)
	_, _, e = q.Lease(0)
	expectErr(t, "Lease", e, api.OK)
	expectErr(t, "Ack", q.Ack(2), api.OK)
	expectCredits(1, 1, 1)
}

// P28.6: which fragments wait, in the order of arrival, and which tickets are open, in the order of their numbers.
func TestState(t *testing.T) {
	q := made(t, 9, 9, 10)
	offered(t, q, ids(7, 3, 2, 0, 7, 1, 9, 5, 2, 8)...)
	expectState(t, q, ids(7, 3, 2, 0, 7, 1, 9, 5, 2, 8))
	var tickets []queue.Ticket
	for k, want := range ids(2, 0, 7, 3, 9, 5, 2, 8) {
		ticket, _, e := q.Lease(3 * k)
		expectErr(t, "Lease", e, api.OK)
		if ticket != (queue.Ticket{Number: k + 1, Id: want, Until: 3*k + 10}) {
			t.Errorf("Lease: %v, want %v", ticket, want)
		}
		if q.Now() != 3*k {
			t.Errorf("Now: %d", q.Now())
		}
		tickets = append(tickets, ticket)
	}
	expectState(t, q, ids(7, 1), 1, 2, 3, 4)
	if got := q.Leased(); !slices.Equal(got, tickets) {
		t.Errorf("Leased: %v, want %v", got, tickets)
	}
	expectErr(t, "Release", q.Release(2), api.OK)
	expectState(t, q, ids(7, 3, 7, 1), 1, 3, 4)
	expectErr(t, "Ack", q.Ack(3), api.OK)
	expectState(t, q, ids(7, 3, 7, 1), 1, 4)
	offered(t, q, id(9, 5))
	expectState(t, q, ids(7, 3, 7, 1, 9, 5), 1, 4)
}

// P28.7: copies are independent of their originals.
func TestClone(t *testing.T) {
	q := made(t, 9, 9, 10)
	offered(t, q, ids(1, 0, 2, 0, 3, 0, 4, 0)...)
	q.Lease(5)
	q.Lease(5)
	q.Ack(1)
	before := q.Clone()
	expectEqual(t, "a copy", q, before, true)
	for what, change := range map[string]func(q *queue.Queue){
		"Offer":   func(q *queue.Queue) { q.Offer(some(5, 0)) },
		"Lease":   func(q *queue.Queue) { q.Lease(5) },
		"Ack":     func(q *queue.Queue) { q.Ack(2) },
		"Release": func(q *queue.Queue) { q.Release(2) },
		"Expire":  func(q *queue.Queue) { q.Expire(15) },
		"time":    func(q *queue.Queue) { q.Expire(6) },
	} {
		copied := q.Clone()
		change(copied)
		expectEqual(t, "behind "+what+" of the copy", q, copied, false)
		expectEqual(t, "behind "+what+" of the copy", q, before, true)
		change(q)
		expectEqual(t, "behind "+what, q, copied, true)
		q = before.Clone()
	}
}

// begin returns a queue with fragments 1.0, 1.1 and 2.0, of which 1.0 and 2.0 are leased.
func begin(t *testing.T, items, perAgent, lease int) *queue.Queue {
	t.Helper()
	q := made(t, items, perAgent, lease)
	offered(t, q, ids(1, 0, 1, 1, 2, 0)...)
	q.Lease(1)
	q.Lease(2)
	return q
}

// P28.7: what makes queues different.
func TestEqual(t *testing.T) {
	q := begin(t, 9, 9, 10)
	expectEqual(t, "the same", q, begin(t, 9, 9, 10), true)
	expectEqual(t, "other limits", q, begin(t, 10, 9, 10), false)
	expectEqual(t, "other limits", q, begin(t, 9, 8, 10), false)
	expectEqual(t, "other limits", made(t, 9, 9, 10), made(t, 9, 9, 11), false)
	expectEqual(t, "empty ones", made(t, 9, 9, 10), made(t, 9, 9, 10), true)
	expectEqual(t, "a fragment more", q, with(begin(t, 9, 9, 10), func(q *queue.Queue) { q.Offer(some(3, 0)) }), false)
	expectEqual(t, "another present", q, with(begin(t, 9, 9, 10), func(q *queue.Queue) { q.Expire(3) }), false)
}

// twins returns two equal queues with the same fragments.
func twins(t *testing.T, l ...queue.Id) (a, b *queue.Queue) {
	t.Helper()
	a, b = made(t, 9, 9, 10), made(t, 9, 9, 10)
	offered(t, a, l...)
	offered(t, b, l...)
	expectEqual(t, "twins", a, b, true)
	return a, b
}

// P28.7: the order of arrival makes queues different, but not what was there before.
func TestEqualOrders(t *testing.T) {
	a, b := twins(t)
	offered(t, a, ids(1, 0, 2, 0)...)
	offered(t, b, ids(2, 0, 1, 0)...)
	expectEqual(t, "another order", a, b, false)
	a, b = twins(t, id(1, 0))
	offered(t, a, id(2, 0))
	a.Lease(0)
	b.Lease(0)
	a.Ack(1)
	b.Ack(1)
	offered(t, b, id(2, 0))
	expectEqual(t, "the same state", a, b, true)
}

// P28.7: tickets make queues different, even if nothing else does.
func TestEqualTickets(t *testing.T) {
	a, b := twins(t, ids(1, 0, 1, 1)...)
	for release, q := range map[int]*queue.Queue{1: a, 2: b} {
		q.Lease(0)
		q.Lease(0)
		q.Release(release)
	}
	expectEqual(t, "other tickets", a, b, false)
	a, b = twins(t, id(1, 0))
	a.Lease(1)
	b.Lease(2)
	a.Expire(2)
	expectEqual(t, "other ends of leases", a, b, false)
	a, b = twins(t, id(1, 0))
	for _, q := range []*queue.Queue{a, b, a} {
		ticket, _, _ := q.Lease(0)
		q.Release(ticket.Number)
	}
	expectEqual(t, "another number of tickets", a, b, false)
	ticket, _, _ := b.Lease(0)
	b.Release(ticket.Number)
	expectEqual(t, "the same number of tickets", a, b, true)
	a, b = twins(t, id(2, 0))
	b.Lease(0)
	b.Release(1)
	offered(t, a, id(1, 0))
	a.Lease(0)
	a.Ack(1)
	expectEqual(t, "another agent served last", a, b, false)
}

// with changes a queue.
func with(q *queue.Queue, change func(q *queue.Queue)) *queue.Queue {
	change(q)
	return q
}

// P28.7: fragments with the same identity and other contents make queues different.
func TestContents(t *testing.T) {
	holding := func(change func(f *api.Fragment)) *queue.Queue {
		q := made(t, 9, 9, 10)
		f := some(1, 0)
		change(&f)
		expectErr(t, "Offer", q.Offer(f), api.OK)
		return q
	}
	q := holding(func(*api.Fragment) {})
	for k, change := range []func(f *api.Fragment){
		func(f *api.Fragment) { f.Spans[0].Trace++ },
		func(f *api.Fragment) { f.Spans[0].Revision++ },
		func(f *api.Fragment) { f.Spans[0].Version = "v" },
		func(f *api.Fragment) { f.Spans[1].Error = true },
		func(f *api.Fragment) { f.Spans[0].Attrs[0].Value.Int++ },
		func(f *api.Fragment) { f.Spans[0].Attrs = nil },
		func(f *api.Fragment) { f.Spans[0].Links[0].Id++ },
		func(f *api.Fragment) { f.Spans[1].Links = f.Spans[0].Links },
		func(f *api.Fragment) { f.Spans = f.Spans[:1] },
		func(f *api.Fragment) { slices.Reverse(f.Spans) },
		func(f *api.Fragment) { f.Exchanges[0].Least++ },
		func(f *api.Fragment) { f.Exchanges = nil },
	} {
		expectEqual(t, fmt.Sprint("the change ", k), q, holding(change), false)
	}
	// Nil and empty lists are equal.
	expectEqual(t, "empty lists", q, holding(func(f *api.Fragment) { f.Spans[1].Attrs, f.Spans[1].Links = []api.Attr{}, []api.Ref{} }), true)
	none := holding(func(f *api.Fragment) { f.Spans, f.Exchanges = nil, nil })
	expectEqual(t, "empty lists", none, holding(func(f *api.Fragment) { f.Spans, f.Exchanges = []api.Span{}, []api.Exchange{} }), true)
}

// spoil changes all lists of a fragment.
func spoil(f api.Fragment) {
	for k := range f.Spans {
		for i := range f.Spans[k].Attrs {
			f.Spans[k].Attrs[i].Key = "spoiled"
		}
		for i := range f.Spans[k].Links {
			f.Spans[k].Links[i].Id = -1
		}
		f.Spans[k].Service = "spoiled"
	}
	for k := range f.Exchanges {
		f.Exchanges[k].Sent = -1
	}
}

// The rules that arguments are neither modified nor retained, and that results are newly allocated.
func TestIndependence(t *testing.T) {
	q := made(t, 9, 9, 10)
	f := some(1, 0)
	expectErr(t, "Offer", q.Offer(f), api.OK)
	if !reflect.DeepEqual(f, some(1, 0)) {
		t.Error("Offer has modified its argument")
	}
	spoil(f)
	copied := q.Clone()
	_, got, _ := q.Lease(0)
	if !reflect.DeepEqual(got, some(1, 0)) {
		t.Errorf("Lease: %v", got)
	}
	spoil(got)
	q.Release(1)
	_, got, _ = q.Lease(0)
	if !reflect.DeepEqual(got, some(1, 0)) {
		t.Errorf("the second Lease: %v", got)
	}
	spoil(got)
	_, got, _ = copied.Lease(0)
	if !reflect.DeepEqual(got, some(1, 0)) {
		t.Errorf("Lease of the copy: %v", got)
	}
	offered(t, q, ids(1, 1, 2, 0)...)
	q.Lease(0)
	waiting, leased := q.Waiting(), q.Leased()
	waiting[0], leased[0] = id(9, 9), queue.Ticket{}
	waiting, leased = append(waiting[:0], id(8, 8)), append(leased[:1], queue.Ticket{})
	expectState(t, q, ids(1, 1), 2, 3)
	if len(waiting) != 1 || len(leased) != 2 {
		t.Error("the results have changed")
	}
}

// P1, P28: nil queues.
func TestNil(t *testing.T) {
	var q *queue.Queue
	expectErr(t, "Offer", q.Offer(api.Fragment{}), api.ErrArgument)
	ticket, f, e := q.Lease(-1)
	expectErr(t, "Lease", e, api.ErrArgument)
	expectErr(t, "Ack", q.Ack(0), api.ErrArgument)
	expectErr(t, "Release", q.Release(0), api.ErrArgument)
	tickets, e := q.Expire(-1)
	expectErr(t, "Expire", e, api.ErrArgument)
	if ticket != (queue.Ticket{}) || !reflect.DeepEqual(f, api.Fragment{}) || len(tickets) != 0 {
		t.Errorf("%v, %v, %v", ticket, f, tickets)
	}
	if q.Credit(1) != 0 || len(q.Waiting()) != 0 || len(q.Leased()) != 0 || q.Len() != 0 || q.Now() != 0 || q.Clone() != nil {
		t.Error("a nil queue has something")
	}
	expectEqual(t, "nil ones", q, nil, true)
	expectEqual(t, "a nil one", q, made(t, 1, 1, 1), false)
	expectEqual(t, "a nil one", q, new(queue.Queue), false)
}

// P1: a queue that New has not made does no harm.
func TestZeroValue(t *testing.T) {
	q := new(queue.Queue)
	expectErr(t, "Offer", q.Offer(some(1, 0)), api.ErrFull)
	_, _, e := q.Lease(0)
	expectErr(t, "Lease", e, api.ErrEmpty)
	expectErr(t, "Ack", q.Ack(0), api.ErrNotFound)
	expectErr(t, "Release", q.Release(0), api.ErrNotFound)
	tickets, e := q.Expire(5)
	expectErr(t, "Expire", e, api.OK)
	if len(tickets) != 0 || q.Now() != 5 || q.Credit(1) != 0 {
		t.Errorf("%v, %d, %d", tickets, q.Now(), q.Credit(1))
	}
	expectState(t, q, nil)
	expectEqual(t, "a copy", q, q.Clone(), true)
	expectEqual(t, "an empty one", q, made(t, 1, 1, 1), false)
}
