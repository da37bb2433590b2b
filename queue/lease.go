package queue

import (
	"cmp"
	"slices"

	"sleuth/api"
)

// Ticket is a lease: its number, the fragment, and when it ends.
type Ticket struct {
	Number int
	Id     Id
	Until  int
}

// isOpen reports whether there is a ticket. The tickets of a queue have the numbers from 1 on.
func (t Ticket) isOpen() bool { return t.Number > 0 }

// checkTime returns the error for an instant that should not be before the present.
func (q *Queue) checkTime(now int) api.Errno {
	switch {
	case q == nil:
		return api.ErrArgument
	case !isBetween(now, q.now, api.MaxTime):
		return api.ErrTime
	}
	return api.OK
}

// turn returns a number that is less for agents that are served earlier.
func (q *Queue) turn(agent int) int {
	if agent > q.served {
		return agent
	}
	return agent + api.MaxSmall
}

// Lease hands out the next fragment.
func (q *Queue) Lease(now int) (Ticket, api.Fragment, api.Errno) {
	if e := q.checkTime(now); e != api.OK {
		return Ticket{}, api.Fragment{}, e
	}
	waiting := q.Waiting()
	if len(waiting) == 0 {
		return Ticket{}, api.Fragment{}, api.ErrEmpty
	}
	// Of the fragments of one agent, this is the first one.
	id := slices.MinFunc(waiting, func(a, b Id) int { return cmp.Compare(q.turn(a.Agent), q.turn(b.Agent)) })
	q.issued++
	q.served, q.now = id.Agent, now
	f := q.items[id].fragment
	t := Ticket{q.issued, id, now + q.limits.Lease}
	q.items[id] = item{f, t}
	return t, clone(f), api.OK
}

// Leased returns the open tickets, in the order of their numbers.
func (q *Queue) Leased() []Ticket {
	return q.tickets(func(Ticket) bool { return true })
}

// tickets returns the open tickets for which a condition holds, in the order of their numbers.
func (q *Queue) tickets(holds func(t Ticket) bool) []Ticket {
	if q == nil {
		return nil
	}
	var found []Ticket
	for _, id := range q.order {
		if t := q.items[id].ticket; t.isOpen() && holds(t) {
			found = append(found, t)
		}
	}
	slices.SortFunc(found, func(a, b Ticket) int { return cmp.Compare(a.Number, b.Number) })
	return found
}

// hasNumber returns the condition that a ticket has a number.
func hasNumber(number int) func(t Ticket) bool {
	return func(t Ticket) bool { return t.Number == number }
}

// release lets the fragments wait again for whose open tickets a condition holds, and returns these tickets.
func (q *Queue) release(holds func(t Ticket) bool) []Ticket {
	ended := q.tickets(holds)
	for _, t := range ended {
		q.items[t.Id] = item{fragment: q.items[t.Id].fragment}
	}
	return ended
}

// Ack removes the fragment of an open ticket.
func (q *Queue) Ack(number int) api.Errno {
	if q == nil {
		return api.ErrArgument
	}
	done := q.tickets(hasNumber(number))
	if len(done) == 0 {
		return api.ErrNotFound
	}
	id := done[0].Id
	delete(q.items, id)
	q.order = slices.DeleteFunc(q.order, func(other Id) bool { return other == id })
	return api.OK
}

// Release lets the fragment of an open ticket wait again.
func (q *Queue) Release(number int) api.Errno {
	switch {
	case q == nil:
		return api.ErrArgument
	case len(q.release(hasNumber(number))) == 0:
		return api.ErrNotFound
	}
	return api.OK
}

// Expire lets all fragments wait again whose leases have ended, and returns their tickets.
func (q *Queue) Expire(now int) ([]Ticket, api.Errno) {
	if e := q.checkTime(now); e != api.OK {
		return nil, e
	}
	q.now = now
	return q.release(func(t Ticket) bool { return t.Until <= now }), api.OK
}
