package queue_test

import (
	"cmp"
	"fmt"
	"math"
	"math/rand"
	"reflect"
	"slices"
	"testing"

	"sleuth/api"
	"sleuth/queue"
)

// expectLease expects which fragment is leased, and its ticket.
func expectLease(t *testing.T, q *queue.Queue, now int, want queue.Ticket) {
	t.Helper()
	ticket, f, e := q.Lease(now)
	expectErr(t, "Lease", e, api.OK)
	if ticket != want || !reflect.DeepEqual(f, some(want.Id.Agent, want.Id.Seq)) {
		t.Errorf("Lease: %v with %d.%d, want %v", ticket, f.Agent, f.Seq, want)
	}
}

// expectLeases expects which fragments are leased one after another.
func expectLeases(t *testing.T, q *queue.Queue, want ...queue.Id) {
	t.Helper()
	for _, i := range want {
		ticket, f, e := q.Lease(q.Now())
		expectErr(t, "Lease", e, api.OK)
		if ticket.Id != i || f.Agent != i.Agent || f.Seq != i.Seq {
			t.Errorf("Lease: %v with %d.%d, want %v", ticket, f.Agent, f.Seq, i)
		}
	}
}

// expectEmpty expects that no fragment waits, and that nothing changes.
func expectEmpty(t *testing.T, q *queue.Queue, now int, want api.Errno) {
	t.Helper()
	before := q.Clone()
	ticket, f, e := q.Lease(now)
	expectErr(t, fmt.Sprint("Lease at ", now), e, want)
	if ticket != (queue.Ticket{}) || !reflect.DeepEqual(f, api.Fragment{}) {
		t.Errorf("Lease: %v, %v", ticket, f)
	}
	expectEqual(t, "behind an error", q, before, true)
}

// The first example of the document, without and with a release.
func TestFirstExample(t *testing.T) {
	for _, isReleased := range []bool{false, true} {
		q := made(t, 10, 2, 10)
		offered(t, q, ids(5, 0, 5, 1, 9, 0)...)
		expectLeases(t, q, ids(5, 0, 9, 0)...)
		third := id(5, 1)
		if isReleased {
			expectErr(t, "Release", q.Release(1), api.OK)
			third = id(5, 0)
		}
		expectLeases(t, q, third)
	}
}

// The second example of the document.
func TestSecondExample(t *testing.T) {
	for _, agent := range []int{1, 2, 3} {
		q := made(t, 2, 2, 10)
		offered(t, q, ids(1, 0, 2, 0)...)
		expectErr(t, "Offer", q.Offer(some(agent, 7)), api.ErrFull)
		expectLeases(t, q, id(1, 0))
		expectErr(t, "Offer", q.Offer(some(agent, 7)), api.ErrFull)
		expectErr(t, "Ack", q.Ack(1), api.OK)
		expectErr(t, "Offer", q.Offer(some(agent, 7)), api.OK)
		expectErr(t, "Offer", q.Offer(some(agent, 8)), api.ErrFull)
	}
}

// P28.4: agents are served in turn, the fragments of one agent in the order of arrival.
func TestTurns(t *testing.T) {
	q := made(t, 20, 20, 10)
	offered(t, q, ids(9, 5, 1<<20, 0, 2, 1, 9, 3, 2, 0, 1, 4, 9, 4)...)
	expectLeases(t, q, ids(1, 4, 2, 1, 9, 5, 1<<20, 0, 2, 0, 9, 3, 9, 4)...)
	// The agent 9 was served last.
	offered(t, q, ids(8, 0, 9, 0, 10, 0)...)
	expectLeases(t, q, ids(10, 0, 8, 0, 9, 0)...)
	offered(t, q, ids(9, 1, 9, 2, 1, 0)...)
	expectLeases(t, q, ids(1, 0, 9, 1)...)
	offered(t, q, id(1, 1))
	expectLeases(t, q, ids(1, 1, 9, 2)...)
	// The greatest agent comes before the least one, whichever arrived first.
	q = made(t, 20, 20, 10)
	offered(t, q, ids(1, 0, 1, 1, 1<<20, 0, 1<<20, 1)...)
	expectLeases(t, q, ids(1, 0, 1<<20, 0, 1, 1, 1<<20, 1)...)
}

// P28.4: the tickets, and the errors in their order.
func TestLease(t *testing.T) {
	q := made(t, 9, 9, 7)
	expectEmpty(t, q, -1, api.ErrTime)
	expectEmpty(t, q, 1<<40+1, api.ErrTime)
	expectEmpty(t, q, math.MinInt, api.ErrTime)
	expectEmpty(t, q, math.MaxInt, api.ErrTime)
	expectEmpty(t, q, 0, api.ErrEmpty)
	expectEmpty(t, q, 5, api.ErrEmpty)
	expectEmpty(t, q, 1<<40, api.ErrEmpty)
	offered(t, q, ids(1, 0, 1, 1, 1, 2, 1, 3)...)
	expectLease(t, q, 3, queue.Ticket{Number: 1, Id: id(1, 0), Until: 10})
	expectEmpty(t, q, 2, api.ErrTime)
	expectEmpty(t, q, 0, api.ErrTime)
	expectEmpty(t, q, 1<<40+1, api.ErrTime)
	expectLease(t, q, 3, queue.Ticket{Number: 2, Id: id(1, 1), Until: 10})
	expectLease(t, q, 100, queue.Ticket{Number: 3, Id: id(1, 2), Until: 107})
	expectErr(t, "Ack", q.Ack(2), api.OK)
	expectErr(t, "Release", q.Release(1), api.OK)
	expectLease(t, q, 1<<40, queue.Ticket{Number: 4, Id: id(1, 0), Until: 1<<40 + 7})
	expectLease(t, q, 1<<40, queue.Ticket{Number: 5, Id: id(1, 3), Until: 1<<40 + 7})
	expectEmpty(t, q, 1<<40-1, api.ErrTime)
	expectEmpty(t, q, 1<<40, api.ErrEmpty)
	if q.Now() != 1<<40 {
		t.Errorf("Now: %d", q.Now())
	}
}

// P28.5: which tickets can be acknowledged and released.
func TestAckAndRelease(t *testing.T) {
	for what, call := range map[string]func(q *queue.Queue, number int) api.Errno{"Ack": (*queue.Queue).Ack, "Release": (*queue.Queue).Release} {
		q := made(t, 9, 9, 10)
		offered(t, q, ids(1, 0, 1, 1, 1, 2, 2, 0)...)
		expectLeases(t, q, ids(1, 0, 2, 0, 1, 1)...)
		before := q.Clone()
		for _, number := range []int{0, -1, 4, math.MinInt, math.MaxInt} {
			expectErr(t, fmt.Sprint(what, " of ", number), call(q, number), api.ErrNotFound)
		}
		expectEqual(t, "behind errors", q, before, true)
		expectErr(t, what, call(q, 2), api.OK)
		for _, again := range []func(q *queue.Queue, number int) api.Errno{(*queue.Queue).Ack, (*queue.Queue).Release} {
			expectErr(t, what+" again", again(q, 2), api.ErrNotFound)
		}
		want := map[string][]queue.Id{"Ack": ids(1, 2), "Release": ids(1, 2, 2, 0)}
		expectState(t, q, want[what], 1, 3)
	}
}

// P28.5: a released fragment has its old place in the order of arrival, and a new ticket; the agent served last stays.
func TestRelease(t *testing.T) {
	q := made(t, 9, 9, 10)
	offered(t, q, ids(1, 0, 2, 0, 1, 1, 3, 0)...)
	expectLeases(t, q, ids(1, 0, 2, 0)...)
	expectErr(t, "Release", q.Release(1), api.OK)
	expectState(t, q, ids(1, 0, 1, 1, 3, 0), 2)
	expectLeases(t, q, id(3, 0))
	expectLease(t, q, 5, queue.Ticket{Number: 4, Id: id(1, 0), Until: 15})
	expectErr(t, "Ack of the old ticket", q.Ack(1), api.ErrNotFound)
	expectErr(t, "Release of the old ticket", q.Release(1), api.ErrNotFound)
	expectErr(t, "Ack of the new ticket", q.Ack(4), api.OK)
	expectState(t, q, ids(1, 1), 2, 3)
}

// P28.5: the leases that have ended, and the errors.
func TestExpire(t *testing.T) {
	q := made(t, 9, 9, 10)
	expectExpire := func(now int, wantErr api.Errno, want ...int) {
		t.Helper()
		before := q.Clone()
		tickets, e := q.Expire(now)
		expectErr(t, fmt.Sprint("Expire at ", now), e, wantErr)
		var numbers []int
		for _, ticket := range tickets {
			numbers = append(numbers, ticket.Number)
			if !slices.Contains(before.Leased(), ticket) {
				t.Errorf("Expire at %d: the ticket %v was not open", now, ticket)
			}
		}
		if !slices.Equal(numbers, want) {
			t.Errorf("Expire at %d: %v, want %v", now, numbers, want)
		}
		if e != api.OK {
			expectEqual(t, "behind an error", q, before, true)
		} else if q.Now() != now {
			t.Errorf("Now behind Expire at %d: %d", now, q.Now())
		}
	}
	expectExpire(-1, api.ErrTime)
	expectExpire(0, api.OK)
	expectExpire(2, api.OK)
	expectExpire(1, api.ErrTime)
	expectExpire(1<<40+1, api.ErrTime)
	expectExpire(math.MaxInt, api.ErrTime)
	expectExpire(math.MinInt, api.ErrTime)
	// They arrive in another order than they are leased.
	offered(t, q, ids(3, 0, 2, 0, 1, 0, 1, 1, 3, 1)...)
	for k, want := range ids(1, 0, 2, 0, 3, 0, 1, 1, 3, 1) {
		expectLease(t, q, 3+k, queue.Ticket{Number: k + 1, Id: want, Until: 13 + k})
	}
	expectExpire(12, api.OK)
	expectErr(t, "Ack", q.Ack(2), api.OK)
	expectExpire(13, api.OK, 1)
	expectExpire(13, api.OK)
	expectState(t, q, ids(1, 0), 3, 4, 5)
	expectEmpty(t, q, 12, api.ErrTime)
	expectExpire(17, api.OK, 3, 4, 5)
	expectState(t, q, ids(3, 0, 1, 0, 1, 1, 3, 1))
	expectErr(t, "Ack of an expired ticket", q.Ack(3), api.ErrNotFound)
	// The agent 3 is still the one that was served last.
	expectLeases(t, q, ids(1, 0, 3, 0)...)
	expectExpire(1<<40, api.OK, 6, 7)
	expectExpire(1<<40-1, api.ErrTime)
	expectExpire(1<<40, api.OK)
}

// P28.5: a ticket that has ended can be acknowledged and released, until it is expired.
func TestLateAck(t *testing.T) {
	q := made(t, 9, 9, 1)
	offered(t, q, ids(1, 0, 1, 1, 1, 2, 1, 3)...)
	expectLeases(t, q, ids(1, 0, 1, 1, 1, 2)...)
	expectLease(t, q, 100, queue.Ticket{Number: 4, Id: id(1, 3), Until: 101})
	expectState(t, q, nil, 1, 2, 3, 4)
	expectErr(t, "Ack", q.Ack(1), api.OK)
	expectErr(t, "Release", q.Release(2), api.OK)
	tickets, e := q.Expire(100)
	expectErr(t, "Expire", e, api.OK)
	if len(tickets) != 1 || tickets[0] != (queue.Ticket{Number: 3, Id: id(1, 2), Until: 1}) {
		t.Errorf("Expire: %v", tickets)
	}
	expectState(t, q, ids(1, 1, 1, 2), 4)
}

// entry is a fragment of a model, and ticket is its open ticket, if its number is not 0.
type entry struct {
	id     queue.Id
	ticket queue.Ticket
}

// model is a queue as the terms describe it.
type model struct {
	limits              queue.Limits
	entries             []entry // in the order of arrival
	issued, served, now int
	accepted, done      map[queue.Id]int
}

func newModel(l queue.Limits) *model {
	return &model{limits: l, accepted: map[queue.Id]int{}, done: map[queue.Id]int{}}
}

func (m *model) count(is func(e entry) bool) int {
	n := 0
	for _, e := range m.entries {
		if is(e) {
			n++
		}
	}
	return n
}

func (m *model) credit(agent int) int {
	ofAgent := m.count(func(e entry) bool { return e.id.Agent == agent })
	return min(m.limits.Items-len(m.entries), m.limits.PerAgent-ofAgent)
}

func (m *model) offer(i queue.Id) api.Errno {
	switch {
	case m.count(func(e entry) bool { return e.id == i }) > 0:
		return api.ErrDuplicate
	case m.credit(i.Agent) == 0:
		return api.ErrFull
	}
	m.entries = append(m.entries, entry{id: i})
	m.accepted[i]++
	return api.OK
}

// next returns the place of the next fragment, or -1.
func (m *model) next() int {
	least, later := -1, -1
	for k, e := range m.entries {
		if e.ticket.Number != 0 {
			continue
		}
		if least < 0 || e.id.Agent < m.entries[least].id.Agent {
			least = k
		}
		if e.id.Agent > m.served && (later < 0 || e.id.Agent < m.entries[later].id.Agent) {
			later = k
		}
	}
	if later < 0 {
		return least
	}
	return later
}

func (m *model) lease(now int) (queue.Ticket, api.Errno) {
	if now < m.now {
		return queue.Ticket{}, api.ErrTime
	}
	k := m.next()
	if k < 0 {
		return queue.Ticket{}, api.ErrEmpty
	}
	m.issued++
	e := &m.entries[k]
	m.now, m.served = now, e.id.Agent
	e.ticket = queue.Ticket{Number: m.issued, Id: e.id, Until: now + m.limits.Lease}
	return e.ticket, api.OK
}

// end ends tickets, and returns them.
func (m *model) end(isEnded func(t queue.Ticket) bool) []queue.Ticket {
	var ended []queue.Ticket
	for k, e := range m.entries {
		if e.ticket.Number != 0 && isEnded(e.ticket) {
			ended = append(ended, e.ticket)
			m.entries[k].ticket = queue.Ticket{}
		}
	}
	slices.SortFunc(ended, func(a, b queue.Ticket) int { return cmp.Compare(a.Number, b.Number) })
	return ended
}

func (m *model) release(number int) api.Errno {
	if len(m.end(func(t queue.Ticket) bool { return t.Number == number })) == 0 {
		return api.ErrNotFound
	}
	return api.OK
}

func (m *model) ack(number int) api.Errno {
	for k, e := range m.entries {
		if number != 0 && e.ticket.Number == number {
			m.done[e.id]++
			m.entries = slices.Delete(m.entries, k, k+1)
			return api.OK
		}
	}
	return api.ErrNotFound
}

func (m *model) expire(now int) ([]queue.Ticket, api.Errno) {
	if now < m.now {
		return nil, api.ErrTime
	}
	m.now = now
	return m.end(func(t queue.Ticket) bool { return t.Until <= now }), api.OK
}

// expectModel expects that a queue is in the state of a model.
func expectModel(t *testing.T, q *queue.Queue, m *model) {
	t.Helper()
	var waiting []queue.Id
	var tickets []queue.Ticket
	held := map[queue.Id]int{}
	for _, e := range m.entries {
		held[e.id]++
		if e.ticket.Number == 0 {
			waiting = append(waiting, e.id)
		} else {
			tickets = append(tickets, e.ticket)
		}
	}
	slices.SortFunc(tickets, func(a, b queue.Ticket) int { return cmp.Compare(a.Number, b.Number) })
	if !slices.Equal(q.Waiting(), waiting) || !slices.Equal(q.Leased(), tickets) || q.Len() != len(m.entries) || q.Now() != m.now {
		t.Errorf("%v and %v, %d fragments at %d; want %v and %v at %d", q.Waiting(), q.Leased(), q.Len(), q.Now(), waiting, tickets, m.now)
	}
	// P28.8: what was accepted and not acknowledged is in the queue, and nothing else.
	for i, n := range m.accepted {
		if n != m.done[i]+held[i] {
			t.Errorf("%v was accepted %d times, acknowledged %d times, and is held %d times", i, n, m.done[i], held[i])
		}
	}
	for agent := 1; agent <= 6; agent++ {
		if q.Credit(agent) != m.credit(agent) {
			t.Errorf("Credit of %d: %d, want %d", agent, q.Credit(agent), m.credit(agent))
		}
	}
}

// step does the same with a queue and a model.
func step(t *testing.T, random *rand.Rand, q *queue.Queue, m *model) {
	t.Helper()
	number, now := random.Intn(m.issued+2), m.now-1+random.Intn(4)
	switch choice := random.Intn(10); {
	case choice < 4:
		i := id(1+random.Intn(6), random.Intn(8))
		expectErr(t, "Offer", q.Offer(some(i.Agent, i.Seq)), m.offer(i))
	case choice < 6:
		ticket, f, e := q.Lease(now)
		want, wantErr := m.lease(now)
		expectErr(t, "Lease", e, wantErr)
		if ticket != want || e == api.OK && !reflect.DeepEqual(f, some(want.Id.Agent, want.Id.Seq)) {
			t.Errorf("Lease: %v with %d.%d, want %v", ticket, f.Agent, f.Seq, want)
		}
	case choice < 8:
		expectErr(t, "Ack", q.Ack(number), m.ack(number))
	case choice < 9:
		expectErr(t, "Release", q.Release(number), m.release(number))
	default:
		tickets, e := q.Expire(now)
		want, wantErr := m.expire(now)
		expectErr(t, "Expire", e, wantErr)
		if !slices.Equal(tickets, want) {
			t.Errorf("Expire: %v, want %v", tickets, want)
		}
	}
}

// P28.2 to P28.8: whatever is done, a queue does what the terms say; a copy does the same.
func TestMany(t *testing.T) {
	random := rand.New(rand.NewSource(28))
	for range 100 {
		items := 1 + random.Intn(15)
		limits := queue.Limits{Items: items, PerAgent: 1 + random.Intn(items), Lease: 1 + random.Intn(6)}
		q, _ := queue.New(limits)
		m := newModel(limits)
		for range 150 {
			seed := random.Int63()
			before := q.Clone()
			copied, twin := q.Clone(), *m
			twin.entries = slices.Clone(m.entries)
			step(t, rand.New(rand.NewSource(seed)), q, m)
			expectModel(t, q, m)
			if t.Failed() {
				t.FailNow()
			}
			twin.accepted, twin.done = map[queue.Id]int{}, map[queue.Id]int{}
			isSame := slices.Equal(twin.entries, m.entries) && twin.issued == m.issued && twin.now == m.now
			expectEqual(t, "with the state before", q, before, isSame)
			step(t, rand.New(rand.NewSource(seed)), copied, &twin)
			expectEqual(t, "of the copy", q, copied, true)
		}
	}
}

// P28.8: the fragments of an agent are leased in the order of arrival, each agent gets its turn, and whoever acknowledges receives each fragment once.
func TestConsequences(t *testing.T) {
	random := rand.New(rand.NewSource(29))
	for range 200 {
		q := made(t, 60, 30, 1)
		var arrival []queue.Id
		for range 60 {
			i := id(1+random.Intn(6), random.Intn(50))
			if q.Offer(some(i.Agent, i.Seq)) == api.OK {
				arrival = append(arrival, i)
			}
		}
		received := map[int][]queue.Id{}
		since := map[int]map[int]int{} // how often other agents were served since an agent was
		for agent := 1; agent <= 6; agent++ {
			since[agent] = map[int]int{}
		}
		for q.Len() > 0 {
			left := map[int]bool{}
			for _, i := range q.Waiting() {
				left[i.Agent] = true
			}
			ticket, _, e := q.Lease(0)
			expectErr(t, "Lease", e, api.OK)
			agent := ticket.Id.Agent
			for other := range left {
				if since[other][agent]++; other != agent && since[other][agent] > 1 {
					t.Errorf("the agent %d was served twice while %d waited", agent, other)
				}
			}
			clear(since[agent])
			received[agent] = append(received[agent], ticket.Id)
			expectErr(t, "Ack", q.Ack(ticket.Number), api.OK)
		}
		for agent := 1; agent <= 6; agent++ {
			want := slices.DeleteFunc(slices.Clone(arrival), func(i queue.Id) bool { return i.Agent != agent })
			if !slices.Equal(received[agent], want) {
				t.Errorf("of the agent %d: %v, want %v", agent, received[agent], want)
			}
		}
	}
}

// P17, P28.8: a full queue, in which every fragment is leased and acknowledged.
func TestGreat(t *testing.T) {
	q := made(t, api.MaxRecords, api.MaxRecords, api.MaxSmall)
	for k := range api.MaxRecords {
		expectErr(t, "Offer", q.Offer(api.Fragment{Agent: 1 + k%7, Seq: k}), api.OK)
	}
	expectErr(t, "Offer", q.Offer(api.Fragment{Agent: 9}), api.ErrFull)
	given := map[queue.Id]bool{}
	for k := range api.MaxRecords {
		ticket, _, e := q.Lease(k)
		expectErr(t, "Lease", e, api.OK)
		given[ticket.Id] = true
		expectErr(t, "Ack", q.Ack(ticket.Number), api.OK)
	}
	expectEmpty(t, q, api.MaxRecords, api.ErrEmpty)
	if len(given) != api.MaxRecords || q.Len() != 0 {
		t.Errorf("%d fragments were handed out, and %d are left", len(given), q.Len())
	}
}
