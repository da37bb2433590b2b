package message_test

import (
	"fmt"
	"math/rand"
	"slices"
	"testing"

	"sleuth/api"
	"sleuth/message"
)

func expectLength(t *testing.T, chain []api.Message, from, to, want int, wantErr api.Errno) {
	t.Helper()
	length, e := message.Length(chain, from, to)
	if length != want || e != wantErr {
		t.Errorf("Length(%v, %d, %d): %d, %d; want %d, %d", chain, from, to, length, e, want, wantErr)
	}
}

// P14.5.
func TestBounds(t *testing.T) {
	var l []api.Message
	var want []api.Constraint
	for _, c := range []struct {
		m     api.Message
		bound int
	}{
		{request(), 102},
		{exchange(4, 3, 10, 25, 6), 9},
		{exchange(4, 3, 0, 0, 0), 0},
		{exchange(4, 3, 9, 2, 5), -12},
		{exchange(4, 3, -9, -2, 5), 2},
		{request(), 102},
		{exchange(4, 3, api.MaxTime, -api.MaxTime, api.MaxTime), -3 * api.MaxTime},
		{exchange(7, 7, -api.MaxTime, api.MaxTime, 0), 2 * api.MaxTime},
	} {
		if bound := message.Bound(c.m); bound != c.bound {
			t.Errorf("Bound(%v): %d", c.m, bound)
		}
		constraint := api.Constraint{From: c.m.From, To: c.m.To, Bound: c.bound}
		if got := message.Constraint(c.m); got != constraint {
			t.Errorf("Constraint(%v): %v", c.m, got)
		}
		l, want = append(l, c.m), append(want, constraint)
	}
	if got := message.Constraints(l); !slices.Equal(got, want) {
		t.Errorf("Constraints: %v", got)
	}
	if got := message.Constraints(nil); len(got) > 0 {
		t.Errorf("Constraints of nothing: %v", got)
	}
}

// P14.7: what is tightest, which of several messages with one bound, and which loops.
func TestTightest(t *testing.T) {
	loose, tight := exchange(1, 2, 0, 9, 0), exchange(1, 2, 0, 9, 4)
	same, span := exchange(1, 2, 0, 5, 0), request()
	span.Received = span.Sent + 5
	back, idle, empty, negative, other := exchange(2, 1, 0, 70, 0), exchange(1, 1, 0, 3, 0), exchange(1, 1, 0, 0, 0), exchange(1, 1, 0, 3, 4), exchange(1, 1, 0, 3, 5)
	further := exchange(1, 1, 0, 4, 6)
	for _, c := range []struct{ l, want []api.Message }{
		{nil, nil},
		{[]api.Message{}, nil},
		{[]api.Message{idle, empty}, nil},
		{[]api.Message{loose}, []api.Message{loose}},
		{[]api.Message{loose, tight}, []api.Message{tight}},
		{[]api.Message{tight, loose, same}, []api.Message{same}},
		{[]api.Message{same, tight, span, loose}, []api.Message{span}},
		{[]api.Message{idle, negative, empty}, []api.Message{negative}},
		{[]api.Message{negative, other, idle}, []api.Message{other}},
		{[]api.Message{further, other, further}, []api.Message{other}},
		{[]api.Message{exchange(3, 1, 0, 9, 0), loose, negative, back, exchange(2, 3, 0, 9, 0), tight}, []api.Message{negative, tight, back, exchange(2, 3, 0, 9, 0), exchange(3, 1, 0, 9, 0)}},
		{[]api.Message{exchange(2, 2, 5, 0, 0), back, exchange(2, 10, 0, 0, 0), exchange(10, 2, 0, 0, 0)}, []api.Message{back, exchange(2, 2, 5, 0, 0), exchange(2, 10, 0, 0, 0), exchange(10, 2, 0, 0, 0)}},
	} {
		expectMessages(t, fmt.Sprint("Tightest of ", c.l), message.Tightest(c.l), c.want)
	}
}

// tightest returns the message of the definition for two clocks, if there is one.
func tightest(l []api.Message, from, to int) []api.Message {
	between := chosen(l, func(m api.Message) bool { return m.From == from && m.To == to && (from != to || message.Bound(m) < 0) })
	best := chosen(ordered(between), func(m api.Message) bool {
		return !slices.ContainsFunc(between, func(o api.Message) bool { return message.Bound(o) < message.Bound(m) })
	})
	return best[:min(1, len(best))]
}

// satisfies reports whether offsets of the clocks from 1 on satisfy all messages.
func satisfies(offsets []int, l []api.Message) bool {
	return !slices.ContainsFunc(message.Constraints(l), func(c api.Constraint) bool {
		return offsets[c.To-1]-offsets[c.From-1] > c.Bound
	})
}

// P14.7 and P14.9: the definition, for random messages; offsets that satisfy the tightest messages satisfy all.
func TestTightestOfMany(t *testing.T) {
	random := rand.New(rand.NewSource(7))
	satisfied := 0
	for range 1000 {
		l := someMessages(random)
		var want []api.Message
		for from := 1; from <= 3; from++ {
			for to := 1; to <= 3; to++ {
				want = append(want, tightest(l, from, to)...)
			}
		}
		expectMessages(t, "Tightest", message.Tightest(l), want)
		for range 20 {
			offsets := []int{random.Intn(5), random.Intn(5), random.Intn(5)}
			if satisfies(offsets, l) != satisfies(offsets, message.Tightest(l)) {
				t.Errorf("the offsets %v satisfy either %v or its tightest messages", offsets, l)
			}
			if satisfies(offsets, l) {
				satisfied++
			}
		}
	}
	if satisfied < 100 {
		t.Errorf("only %d offsets satisfy anything", satisfied)
	}
}

// P14.8: chains, among them the third example of the document, and lists that are none.
func TestLength(t *testing.T) {
	there, back := between(1, 1, 2, 1, 2, 10, 112), between(2, 2, 1, 2, 1, 130, 40)
	loop, further := exchange(2, 2, 5, 0, 1), exchange(2, 7, 5, 10, 1)
	expectLength(t, []api.Message{there, back}, 1, 1, 12, api.OK)
	expectLength(t, []api.Message{back, there}, 2, 2, 12, api.OK)
	expectLength(t, []api.Message{there}, 1, 2, 102, api.OK)
	expectLength(t, []api.Message{there, loop, loop, further}, 1, 7, 94, api.OK)
	expectLength(t, []api.Message{there, back, there, back}, 1, 1, 24, api.OK)
	expectLength(t, []api.Message{loop}, 2, 2, -6, api.OK)
	expectLength(t, nil, 1, 1, 0, api.OK)
	expectLength(t, []api.Message{}, api.MaxSmall, api.MaxSmall, 0, api.OK)
	for _, c := range []struct {
		chain    []api.Message
		from, to int
	}{
		{nil, 1, 2},
		{nil, 2, 1},
		{[]api.Message{there}, 1, 1},
		{[]api.Message{there}, 2, 2},
		{[]api.Message{there}, 2, 1},
		{[]api.Message{there}, 1, 3},
		{[]api.Message{there, back}, 1, 2},
		{[]api.Message{there, back}, 2, 1},
		{[]api.Message{there, there}, 1, 2},
		{[]api.Message{back, back}, 2, 1},
		{[]api.Message{there, further, back}, 1, 1},
		{[]api.Message{further, loop}, 2, 2},
	} {
		expectLength(t, c.chain, c.from, c.to, 0, api.ErrCertificate)
	}
}

// P14.8: as many messages as are permitted, with the greatest bounds.
func TestLongChains(t *testing.T) {
	const size = api.MaxRecords
	m := exchange(1, 1, -api.MaxTime, api.MaxTime, 0)
	expectLength(t, slices.Repeat([]api.Message{m}, size), 1, 1, size*2*api.MaxTime, api.OK)
	m = exchange(1, 1, api.MaxTime, -api.MaxTime, api.MaxTime)
	expectLength(t, slices.Repeat([]api.Message{m}, size), 1, 1, -size*3*api.MaxTime, api.OK)
}
