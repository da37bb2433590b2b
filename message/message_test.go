package message_test

import (
	"fmt"
	"math"
	"math/rand"
	"slices"
	"testing"

	"sleuth/api"
	"sleuth/message"
)

// ref returns the identity of a span.
func ref(trace, id int) api.Ref { return api.Ref{Trace: trace, Id: id} }

// request returns a valid message between two spans.
func request() api.Message {
	return api.Message{Kind: api.MessageRequest, A: ref(3, 4), B: ref(3, 5), From: 1, To: 2, Sent: 10, Received: 112}
}

// exchange returns a valid message that names no span.
func exchange(from, to, sent, received, least int) api.Message {
	return api.Message{Kind: api.MessageExchange, From: from, To: to, Sent: sent, Received: received, Least: least}
}

// with returns a message with a change.
func with(m api.Message, change func(m *api.Message)) api.Message {
	change(&m)
	return m
}

func expectErr(t *testing.T, what string, got, want api.Errno) {
	t.Helper()
	if got != want {
		t.Errorf("%s: %d, want %d", what, got, want)
	}
}

func expectMessages(t *testing.T, what string, got, want []api.Message) {
	t.Helper()
	if !slices.Equal(got, want) {
		t.Errorf("%s: %v, want %v", what, got, want)
	}
}

// a breach is a change that makes a valid message invalid.
type breach struct {
	e      api.Errno
	change func(m *api.Message)
}

// breaches returns changes of all messages, in the order in which they are looked for.
func breaches() []breach {
	return []breach{
		{api.ErrKind, func(m *api.Message) { m.Kind = 0 }},
		{api.ErrKind, func(m *api.Message) { m.Kind = 5 }},
		{api.ErrKind, func(m *api.Message) { m.Kind = -1 }},
		{api.ErrKind, func(m *api.Message) { m.Kind = math.MaxInt }},
		{api.ErrRange, func(m *api.Message) { m.From = 0 }},
		{api.ErrRange, func(m *api.Message) { m.From = api.MaxSmall + 1 }},
		{api.ErrRange, func(m *api.Message) { m.To = 0 }},
		{api.ErrRange, func(m *api.Message) { m.To = -1 }},
		{api.ErrRange, func(m *api.Message) { m.To = api.MaxSmall + 1 }},
		{api.ErrTime, func(m *api.Message) { m.Sent = -api.MaxTime - 1 }},
		{api.ErrTime, func(m *api.Message) { m.Sent = api.MaxTime + 1 }},
		{api.ErrTime, func(m *api.Message) { m.Received = -api.MaxTime - 1 }},
		{api.ErrTime, func(m *api.Message) { m.Received = api.MaxTime + 1 }},
		{api.ErrTime, func(m *api.Message) { m.Least = -1 }},
		{api.ErrTime, func(m *api.Message) { m.Least = api.MaxTime + 1 }},
		{api.ErrTime, func(m *api.Message) { m.Least = math.MinInt }},
	}
}

// spanBreaches returns those of messages between spans, and exchangeBreaches those of exchanges.
func spanBreaches() []breach {
	return append(breaches(),
		breach{api.ErrForm, func(m *api.Message) { m.Least = 1 }},
		breach{api.ErrForm, func(m *api.Message) { m.Least = api.MaxTime }},
		breach{api.ErrRange, func(m *api.Message) { m.A.Trace = 0 }},
		breach{api.ErrRange, func(m *api.Message) { m.A.Trace = api.MaxId + 1 }},
		breach{api.ErrRange, func(m *api.Message) { m.A.Id = 0 }},
		breach{api.ErrRange, func(m *api.Message) { m.A.Id = api.MaxId + 1 }},
		breach{api.ErrRange, func(m *api.Message) { m.A = api.Ref{} }},
		breach{api.ErrRange, func(m *api.Message) { m.B.Trace = -1 }},
		breach{api.ErrRange, func(m *api.Message) { m.B.Trace = api.MaxId + 1 }},
		breach{api.ErrRange, func(m *api.Message) { m.B.Id = math.MinInt }},
		breach{api.ErrRange, func(m *api.Message) { m.B.Id = api.MaxId + 1 }},
		breach{api.ErrRange, func(m *api.Message) { m.B = api.Ref{} }},
	)
}

func exchangeBreaches() []breach {
	return append(breaches(),
		breach{api.ErrForm, func(m *api.Message) { m.A.Trace = 1 }},
		breach{api.ErrForm, func(m *api.Message) { m.A.Id = -1 }},
		breach{api.ErrForm, func(m *api.Message) { m.B.Trace = api.MaxId + 1 }},
		breach{api.ErrForm, func(m *api.Message) { m.B.Id = 1 }},
	)
}

// expectBreaches compares what Check says of a message with one change, and with two of which neither undoes the other.
func expectBreaches(t *testing.T, m api.Message, l []breach) {
	t.Helper()
	expectErr(t, fmt.Sprintf("Check(%v)", m), message.Check(m), api.OK)
	for k, first := range l {
		one := with(m, first.change)
		expectErr(t, fmt.Sprintf("Check(%v)", one), message.Check(one), first.e)
		for _, second := range l[k:] {
			both := with(with(m, second.change), first.change)
			if both == with(one, second.change) {
				expectErr(t, fmt.Sprintf("Check(%v)", both), message.Check(both), first.e)
			}
		}
	}
}

// P14.1: each error, and of two errors the one that is looked for first.
func TestCheck(t *testing.T) {
	for _, kind := range []int{api.MessageRequest, api.MessageResponse, api.MessageLink} {
		expectBreaches(t, with(request(), func(m *api.Message) { m.Kind = kind }), spanBreaches())
	}
	expectBreaches(t, exchange(1, 2, 10, 112, 5), exchangeBreaches())
	expectErr(t, "Check of nothing", message.Check(api.Message{}), api.ErrKind)
	expectErr(t, "Check of a kind only", message.Check(api.Message{Kind: api.MessageExchange}), api.ErrRange)
}

// P14.1: what is just permitted.
func TestCheckLimits(t *testing.T) {
	for k, m := range []api.Message{
		exchange(1, 1, -api.MaxTime, -api.MaxTime, 0),
		exchange(api.MaxSmall, api.MaxSmall, api.MaxTime, api.MaxTime, api.MaxTime),
		exchange(1, api.MaxSmall, api.MaxTime, -api.MaxTime, api.MaxTime),
		with(request(), func(m *api.Message) { m.A, m.B = ref(1, 1), ref(api.MaxId, api.MaxId) }),
		with(request(), func(m *api.Message) { m.A, m.B = ref(api.MaxId, 1), ref(1, api.MaxId) }),
		with(request(), func(m *api.Message) { m.B = m.A }),
		with(request(), func(m *api.Message) { m.Kind, m.Sent, m.Received = api.MessageLink, api.MaxTime, -api.MaxTime }),
	} {
		expectErr(t, fmt.Sprint("Check of the message ", k), message.Check(m), api.OK)
	}
}

// fields returns the numbers of a message, in the order in which they are compared.
func fields(m *api.Message) []*int {
	return []*int{&m.Kind, &m.A.Trace, &m.A.Id, &m.B.Trace, &m.B.Id, &m.From, &m.To, &m.Sent, &m.Received, &m.Least}
}

func expectOrder(t *testing.T, a, b api.Message, want int) {
	t.Helper()
	if got := message.Compare(a, b); got != want {
		t.Errorf("Compare(%v, %v): %d", a, b, got)
	}
}

// P14.2: of two fields that differ, the one that is compared first decides.
func TestCompare(t *testing.T) {
	expectOrder(t, request(), request(), 0)
	for first := range fields(&api.Message{}) {
		for second := range fields(&api.Message{})[first:] {
			for _, c := range []struct{ less, greater int }{{1, 2}, {-5, 3}, {9, 10}, {math.MinInt, math.MaxInt}} {
				a, b := request(), request()
				*fields(&a)[first+second], *fields(&b)[first+second] = c.greater, c.less
				*fields(&a)[first], *fields(&b)[first] = c.less, c.greater
				expectOrder(t, a, b, -1)
				expectOrder(t, b, a, 1)
				expectOrder(t, a, a, 0)
			}
		}
	}
}

// someMessages returns valid messages with small numbers, some of them twice, in no order.
func someMessages(random *rand.Rand) []api.Message {
	var l []api.Message
	small := func() int { return 1 + random.Intn(3) }
	for range random.Intn(12) {
		m := exchange(small(), small(), random.Intn(9)-4, random.Intn(9)-4, 0)
		if random.Intn(2) == 0 {
			m.Kind, m.A, m.B = small(), ref(1, small()), ref(1, small())
		} else {
			m.Least = random.Intn(3)
		}
		l = append(l, m)
	}
	return append(l, l[:random.Intn(1+len(l))]...)
}

// ordered returns the different messages of a list in order, found by looking for the least one that is left.
func ordered(l []api.Message) []api.Message {
	var set []api.Message
	for {
		least := -1
		for k, m := range l {
			isLeft := len(set) == 0 || message.Compare(m, set[len(set)-1]) > 0
			if isLeft && (least < 0 || message.Compare(m, l[least]) < 0) {
				least = k
			}
		}
		if least < 0 {
			return set
		}
		set = append(set, l[least])
	}
}

// chosen returns the messages that satisfy a condition, in their order.
func chosen(l []api.Message, isChosen func(m api.Message) bool) []api.Message {
	return slices.DeleteFunc(slices.Clone(l), func(m api.Message) bool { return !isChosen(m) })
}

// P14.2.
func TestSet(t *testing.T) {
	a, b, c := request(), with(request(), func(m *api.Message) { m.Received++ }), exchange(1, 1, 0, 0, 0)
	expectMessages(t, "Set", message.Set(nil), nil)
	expectMessages(t, "Set", message.Set([]api.Message{}), nil)
	expectMessages(t, "Set", message.Set([]api.Message{c, b, a, b, c, c}), []api.Message{a, b, c})
	random := rand.New(rand.NewSource(1))
	for range 500 {
		l := someMessages(random)
		expectMessages(t, "Set", message.Set(l), ordered(l))
	}
}

// P14.4: Events, for kinds that there are not, too.
func TestEvents(t *testing.T) {
	for _, kind := range []int{math.MinInt, -1, 0, api.MessageRequest, api.MessageResponse, api.MessageLink, api.MessageExchange, 5, math.MaxInt} {
		m := with(request(), func(m *api.Message) { m.Kind = kind })
		isEnd, want := kind == api.MessageResponse, kind >= 1 && kind <= 3
		a, b := api.Event{Span: ref(3, 4), End: isEnd}, api.Event{Span: ref(3, 5), End: isEnd}
		if !want {
			a, b = api.Event{}, api.Event{}
		}
		sent, received, ok := message.Events(m)
		if sent != a || received != b || ok != want {
			t.Errorf("Events of the kind %d: %v, %v, %v", kind, sent, received, ok)
		}
	}
}

// P14.6: Clocks, Loops and Naming, for the messages of one list.
func TestChoices(t *testing.T) {
	there := request()
	back := with(request(), func(m *api.Message) { m.Kind, m.A, m.B, m.From, m.To = api.MessageResponse, m.B, m.A, 9, 2 })
	loop, other := exchange(7, 7, 1, 0, 0), exchange(3, 7, 0, 0, 0)
	own := with(request(), func(m *api.Message) { m.From, m.To, m.A = 2, 2, ref(4, 5) })
	l := []api.Message{own, loop, there, other, loop, back, there}
	if clocks := message.Clocks(l); !slices.Equal(clocks, []int{1, 2, 3, 7, 9}) {
		t.Errorf("Clocks: %v", clocks)
	}
	expectMessages(t, "Loops", message.Loops(l), []api.Message{own, loop, loop})
	expectMessages(t, "Naming", message.Naming(l, ref(3, 4)), []api.Message{there, back, there})
	expectMessages(t, "Naming", message.Naming(l, ref(3, 5)), []api.Message{own, there, back, there})
	expectMessages(t, "Naming", message.Naming(l, ref(4, 5)), []api.Message{own})
	expectMessages(t, "Naming", message.Naming(l, ref(4, 4)), nil)
	// Exchanges name no span, which their messages say by naming the identity that is zero.
	expectMessages(t, "Naming", message.Naming(l, api.Ref{}), []api.Message{loop, other, loop})
	for _, l := range [][]api.Message{nil, {}} {
		expectMessages(t, "Loops", message.Loops(l), nil)
		expectMessages(t, "Naming", message.Naming(l, api.Ref{}), nil)
		if clocks := message.Clocks(l); len(clocks) > 0 {
			t.Errorf("Clocks of nothing: %v", clocks)
		}
	}
}

// P14.6: the definitions, for random messages.
func TestChoicesOfMany(t *testing.T) {
	random := rand.New(rand.NewSource(2))
	for range 500 {
		l := someMessages(random)
		var clocks []int
		for clock := range 9 {
			if slices.ContainsFunc(l, func(m api.Message) bool { return m.From == clock || m.To == clock }) {
				clocks = append(clocks, clock)
			}
		}
		if got := message.Clocks(l); !slices.Equal(got, clocks) {
			t.Errorf("Clocks(%v): %v", l, got)
		}
		expectMessages(t, "Loops", message.Loops(l), chosen(l, func(m api.Message) bool { return m.From == m.To }))
		r := ref(1, random.Intn(4))
		expectMessages(t, "Naming", message.Naming(l, r), chosen(l, func(m api.Message) bool { return m.A == r || m.B == r }))
	}
}

// strange returns messages that are not valid, with great numbers.
func strange() []api.Message {
	l := []api.Message{{}, {Kind: -3}, {Kind: math.MaxInt}}
	for _, n := range []int{math.MinInt, math.MaxInt} {
		for kind := range 6 {
			l = append(l,
				api.Message{Kind: kind, A: ref(n, -n), B: ref(-n, n), From: n, To: -n, Sent: n, Received: -n, Least: n},
				api.Message{Kind: kind, From: n, To: n, Sent: -n, Received: n, Least: -n},
			)
		}
	}
	return l
}

// P1: messages that are not valid do no harm, and have an order, too.
func TestStrangeMessages(t *testing.T) {
	l := strange()
	expectMessages(t, "Set", message.Set(append(strange(), l...)), ordered(l))
	for _, m := range l {
		if e := message.Check(m); e == api.OK {
			t.Errorf("Check(%v): %d", m, e)
		}
		message.Events(m)
		message.Bound(m)
		message.Constraint(m)
		message.Naming(l, m.A)
		message.Length(l, m.From, m.To)
	}
	message.Constraints(l)
	message.Tightest(l)
	expectMessages(t, "Loops", message.Loops(l), chosen(l, func(m api.Message) bool { return m.From == m.To }))
	if clocks := message.Clocks(l); !slices.Equal(clocks, []int{math.MinInt, -math.MaxInt, 0, math.MaxInt}) {
		t.Errorf("Clocks: %v", clocks)
	}
}

// Rules: arguments are not modified, and results share no memory with them.
func TestMessagesIndependent(t *testing.T) {
	given := func() []api.Message {
		l := make([]api.Message, 0, 8)
		return append(l, exchange(7, 7, 1, 0, 0), exchange(7, 7, 1, 0, 0), request(), exchange(1, 2, 3, 4, 1), exchange(7, 7, 5, 0, 0))
	}
	for what, make := range map[string]func(l []api.Message) []api.Message{
		"Set":      message.Set,
		"Loops":    message.Loops,
		"Naming":   func(l []api.Message) []api.Message { return message.Naming(l, api.Ref{}) },
		"Tightest": message.Tightest,
	} {
		l := given()
		made := make(l)
		want := slices.Clone(made)
		if len(made) == 0 || !slices.Equal(l[:cap(l)], given()[:cap(l)]) {
			t.Errorf("%s: nothing, or the argument was modified", what)
		}
		clear(l[:cap(l)])
		expectMessages(t, what, made, want)
		l = given()
		made = make(l)
		clear(made[:cap(made)])
		if !slices.Equal(l[:cap(l)], given()[:cap(l)]) {
			t.Errorf("%s: the argument is shared", what)
		}
	}
}
