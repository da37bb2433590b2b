package skew_test

import (
	"fmt"
	"math"
	"math/rand"
	"reflect"
	"slices"
	"testing"

	"sleuth/api"
	"sleuth/constraint"
	"sleuth/message"
	"sleuth/skew"
)

// bound returns an exchange that bounds the difference of two offsets.
func bound(from, to, most int) api.Message {
	return api.Message{Kind: api.MessageExchange, From: from, To: to, Sent: 7, Received: 7 + most}
}

// bounds returns the exchanges of a list of two clocks and a bound each.
func bounds(l ...int) []api.Message {
	var messages []api.Message
	for k := 0; k < len(l); k += 3 {
		messages = append(messages, bound(l[k], l[k+1], l[k+2]))
	}
	return messages
}

// call returns the messages between a client by the clock 1 and its server by the clock 2, as in the document.
func call() []api.Message {
	client, server := api.Ref{Trace: 5, Id: 1}, api.Ref{Trace: 5, Id: 2}
	return []api.Message{
		{Kind: api.MessageRequest, A: client, B: server, From: 1, To: 2, Sent: 10, Received: 112},
		{Kind: api.MessageResponse, A: server, B: client, From: 2, To: 1, Sent: 130, Received: 40},
	}
}

// evidenceOf returns the evidence of valid messages.
func evidenceOf(t *testing.T, l []api.Message) *skew.Evidence {
	t.Helper()
	e, f := skew.New(l)
	if f != api.OK || e == nil {
		t.Fatalf("New(%v): %d", l, f)
	}
	return e
}

// assignment returns the offsets of a list of clocks and values.
func assignment(l ...int) []api.Offset {
	var v []api.Offset
	for k := 0; k < len(l); k += 2 {
		v = append(v, api.Offset{Clock: l[k], Value: l[k+1]})
	}
	return v
}

func expectErr(t *testing.T, what string, got, want api.Errno) {
	t.Helper()
	if got != want {
		t.Errorf("%s: the error %d, want %d", what, got, want)
	}
}

func expectInts(t *testing.T, what string, got []int, want ...int) {
	t.Helper()
	if !slices.Equal(got, want) {
		t.Errorf("%s: %v, want %v", what, got, want)
	}
}

func expectMessages(t *testing.T, what string, got, want []api.Message) {
	t.Helper()
	if !slices.Equal(got, want) {
		t.Errorf("%s: %v, want %v", what, got, want)
	}
}

func expectOffsets(t *testing.T, what string, got []api.Offset, f api.Errno, want []api.Offset, wantErr api.Errno) {
	t.Helper()
	if !slices.Equal(got, want) || f != wantErr {
		t.Errorf("%s: %v, %d; want %v, %d", what, got, f, want, wantErr)
	}
}

func expectComponents(t *testing.T, e *skew.Evidence, want ...[]int) {
	t.Helper()
	got := e.Components()
	if !slices.EqualFunc(got, want, slices.Equal[[]int]) {
		t.Errorf("Components: %v, want %v", got, want)
	}
	for _, l := range want {
		for _, clock := range l {
			component, f := e.Component(clock)
			expectErr(t, "Component", f, api.OK)
			expectInts(t, fmt.Sprint("Component of ", clock), component, l...)
		}
	}
}

// P15.1 and P15.2: messages in order, each once, clocks, and components.
func TestMessages(t *testing.T) {
	there, back := call()[0], call()[1]
	e := evidenceOf(t, []api.Message{bound(9, 4, 3), back, bound(6, 6, 0), there, back, bound(2, 8, -5), bound(4, 3, 1), bound(7, 7, 5)})
	expectMessages(t, "Messages", e.Messages(), []api.Message{there, back, bound(2, 8, -5), bound(4, 3, 1), bound(6, 6, 0), bound(7, 7, 5), bound(9, 4, 3)})
	expectInts(t, "Clocks", e.Clocks(), 1, 2, 3, 4, 6, 7, 8, 9)
	expectComponents(t, e, []int{1, 2, 8}, []int{3, 4, 9}, []int{6}, []int{7})
	for _, clock := range []int{0, 5, 10, -1, math.MinInt, math.MaxInt} {
		component, f := e.Component(clock)
		expectErr(t, fmt.Sprint("Component of ", clock), f, api.ErrNotFound)
		expectInts(t, "Component", component)
	}
}

// P15.2: components that are connected late, and whatever the directions of the messages.
func TestComponents(t *testing.T) {
	for _, l := range [][]api.Message{
		bounds(8, 9, 1, 6, 7, 1, 4, 5, 1, 5, 6, 1, 9, 4, 1),
		bounds(4, 9, 1, 5, 9, 1, 6, 9, 1, 7, 9, 1, 8, 9, 1),
		bounds(9, 8, 1, 8, 7, 1, 7, 6, 1, 6, 5, 1, 5, 4, 1),
		bounds(4, 8, 1, 5, 8, 1, 6, 9, 1, 7, 9, 1, 5, 6, 1),
	} {
		e := evidenceOf(t, append(l, bounds(3, 10, 0, 1, 12, 0, 11, 12, 5)...))
		expectComponents(t, e, []int{1, 11, 12}, []int{3, 10}, []int{4, 5, 6, 7, 8, 9})
	}
}

// P15.1 and P15.2: no messages at all.
func TestNothing(t *testing.T) {
	for _, e := range []*skew.Evidence{evidenceOf(t, nil), evidenceOf(t, []api.Message{}), {}} {
		expectMessages(t, "Messages", e.Messages(), nil)
		expectInts(t, "Clocks", e.Clocks())
		expectComponents(t, e)
		_, f := e.Between(1, 1)
		expectErr(t, "Between", f, api.ErrNotFound)
		expectErr(t, "Check", e.Check(nil), api.OK)
		expectErr(t, "Check", e.Check([]api.Offset{}), api.OK)
		expectErr(t, "Check", e.Check(assignment(1, 0)), api.ErrGap)
		if !e.Equal(&skew.Evidence{}) || !e.Equal(evidenceOf(t, nil)) || e.Equal(nil) || e.Equal(evidenceOf(t, call())) {
			t.Error("Equal of an empty evidence")
		}
		more, f := e.With(call())
		expectErr(t, "With", f, api.OK)
		expectMessages(t, "With", more.Messages(), call())
	}
}

// P15.1: Of derives the messages.
func TestOf(t *testing.T) {
	client := api.Span{Trace: 5, Id: 1, Clock: 1, Kind: api.Client, Service: "web", Operation: "get", Start: 10, End: 40}
	server := api.Span{Trace: 5, Id: 2, Parent: 1, Clock: 2, Kind: api.Server, Service: "api", Operation: "get", Start: 112, End: 130}
	x := api.Exchange{From: 3, To: 2, Sent: 5, Received: 9, Least: 1}
	e, f := skew.Of([]api.Span{server, client, server}, []api.Exchange{x, x})
	expectErr(t, "Of", f, api.OK)
	exchanged := api.Message{Kind: api.MessageExchange, From: 3, To: 2, Sent: 5, Received: 9, Least: 1}
	expectMessages(t, "Of", e.Messages(), append(call(), exchanged))
	expectComponents(t, e, []int{1, 2, 3})
	for _, c := range []struct {
		change func()
		e      api.Errno
	}{
		{func() { x.Least = -1 }, api.ErrTime},
		{func() { x.To = 0 }, api.ErrRange},
		{func() { server.Start = -api.MaxTime - 1 }, api.ErrTime},
		{func() { client.Clock = api.MaxSmall + 1 }, api.ErrRange},
	} {
		c.change()
		e, f := skew.Of([]api.Span{server, client}, []api.Exchange{x})
		expectErr(t, "Of", f, c.e)
		if e != nil {
			t.Error("Of returns evidence with an error")
		}
	}
	e, f = skew.Of(nil, nil)
	expectErr(t, "Of", f, api.OK)
	expectMessages(t, "Of", e.Messages(), nil)
}

// P15.1: the first error of the messages in order, before the limits.
func TestMessageErrors(t *testing.T) {
	kind, clock, time, form, ref := bound(1, 2, 3), bound(1, 0, 3), bound(1, 2, api.MaxTime), bound(1, 2, 3), call()[0]
	kind.Kind, form.A, ref.B.Id = 5, api.Ref{Trace: 1, Id: 1}, 0
	base := evidenceOf(t, call())
	for _, c := range []struct {
		l []api.Message
		e api.Errno
	}{
		{[]api.Message{kind}, api.ErrKind},
		{[]api.Message{bound(1, 2, 3), clock, kind}, api.ErrRange},
		{[]api.Message{bound(1, 2, 3), time, clock, kind}, api.ErrTime},
		{[]api.Message{form, time}, api.ErrForm},
		{[]api.Message{ref, form}, api.ErrRange},
		{append(manyClocks(300), form), api.ErrForm},
		{append(manyPairs(5000), kind), api.ErrKind},
		{append([]api.Message{clock}, manyClocks(300)...), api.ErrRange},
		{[]api.Message{{Kind: math.MinInt, From: math.MaxInt}}, api.ErrKind},
		{[]api.Message{{Kind: api.MessageExchange, From: math.MinInt, To: math.MaxInt}}, api.ErrRange},
		{[]api.Message{{Kind: api.MessageExchange, From: 1, To: 2, Sent: math.MinInt, Received: math.MaxInt, Least: math.MinInt}}, api.ErrTime},
	} {
		e, f := skew.New(c.l)
		expectErr(t, "New", f, c.e)
		with, g := base.With(c.l)
		expectErr(t, "With", g, c.e)
		if e != nil || with != nil {
			t.Error("there is evidence with an error")
		}
	}
	expectMessages(t, "after an error", base.Messages(), call())
}

// manyClocks returns messages between neighbours of some clocks.
func manyClocks(count int) []api.Message {
	var l []api.Message
	for clock := 1; clock < count; clock++ {
		l = append(l, bound(clock, clock+1, 2))
	}
	return l
}

// manyPairs returns messages between different pairs of clocks.
func manyPairs(count int) []api.Message {
	var l []api.Message
	for from := 1; ; from++ {
		for to := 1; to <= 72; to++ {
			if len(l) == count {
				return l
			}
			if from != to {
				l = append(l, bound(from, to, 9))
			}
		}
	}
}

// P15.1: the limits of clocks, and of tightest messages. Messages that are not tightest do not count.
func TestLimits(t *testing.T) {
	loops := func(first, count, most int) []api.Message {
		var l []api.Message
		for clock := first; clock < first+count; clock++ {
			l = append(l, bound(clock, clock, most))
		}
		return l
	}
	for _, c := range []struct {
		l []api.Message
		e api.Errno
	}{
		{manyClocks(api.MaxClocks), api.OK},
		{manyClocks(api.MaxClocks + 1), api.ErrLimit},
		{append(manyClocks(api.MaxClocks), bound(1, 999, 0)), api.ErrLimit},
		{append(manyClocks(api.MaxClocks-1), bound(999, 999, 0)), api.OK},
		{append(manyClocks(api.MaxClocks), bound(999, 999, 0)), api.ErrLimit},
		{loops(1, api.MaxClocks, 5), api.OK},
		{loops(1, api.MaxClocks+1, 5), api.ErrLimit},
		{manyPairs(constraint.MaxConstraints), api.OK},
		{manyPairs(constraint.MaxConstraints + 1), api.ErrLimit},
		{append(manyPairs(constraint.MaxConstraints), loops(1, 200, 0)...), api.OK},
		{append(manyPairs(constraint.MaxConstraints), bound(200, 200, -1)), api.ErrLimit},
		{append(manyPairs(constraint.MaxConstraints), bounds(1, 2, 8, 2, 1, 9, 1, 2, 10)...), api.OK},
	} {
		e, f := skew.New(c.l)
		expectErr(t, "New", f, c.e)
		with, g := evidenceOf(t, c.l[:1]).With(c.l[1:])
		expectErr(t, "With", g, c.e)
		if (e == nil) != (c.e != api.OK) || (with == nil) != (c.e != api.OK) {
			t.Errorf("New: %v, With: %v; the error is %d", e, with, c.e)
		}
	}
}

// P15.4 and P15.6: evidence as large as it may be.
func TestLargest(t *testing.T) {
	far := bound(1, 2, 0)
	far.Sent, far.Received = -api.MaxTime, api.MaxTime
	chain := []api.Message{far}
	for len(chain) < api.MaxClocks-1 {
		next := chain[len(chain)-1]
		next.From, next.To = next.From+1, next.To+1
		chain = append(chain, next)
	}
	e := evidenceOf(t, chain)
	greatest, f := e.Greatest(1, api.MaxClocks)
	if greatest != 255*2*api.MaxTime || f != api.OK {
		t.Errorf("Greatest: %d, %d", greatest, f)
	}
	got, f := e.Chain(1, api.MaxClocks)
	expectErr(t, "Chain", f, api.OK)
	expectMessages(t, "Chain", got, chain)
	v, f := e.Attain(1, api.MaxClocks)
	expectErr(t, "Attain", f, api.OK)
	if len(v) != api.MaxClocks || v[255].Value != greatest || e.Check(v) != api.OK {
		t.Errorf("Attain: %v", v)
	}
	full := evidenceOf(t, manyPairs(constraint.MaxConstraints))
	v, f = full.Assignment(1)
	expectErr(t, "Assignment", f, api.OK)
	expectErr(t, "Check", full.Check(v), api.OK)
}

// P15.1: With has the messages of both.
func TestWith(t *testing.T) {
	random := rand.New(rand.NewSource(1))
	for range 300 {
		first, second := someMessages(random), someMessages(random)
		e := evidenceOf(t, first)
		with, f := e.With(second)
		expectErr(t, "With", f, api.OK)
		expectMessages(t, "With", with.Messages(), message.Set(slices.Concat(first, second)))
		expectMessages(t, "what With is called for", e.Messages(), message.Set(first))
		whole := evidenceOf(t, slices.Concat(second, first))
		if !with.Equal(whole) {
			t.Error("With differs from New")
		}
		for a := range 7 {
			for b := range 7 {
				got, f := with.Between(a, b)
				want, g := whole.Between(a, b)
				if got != want || f != g {
					t.Errorf("Between(%d, %d): %v, %d; want %v, %d", a, b, got, f, want, g)
				}
			}
		}
	}
}

// someMessages returns messages between few clocks, some of them twice. Many sets of them are contradictory.
func someMessages(random *rand.Rand) []api.Message {
	var l []api.Message
	least := random.Intn(6) - 4
	for range random.Intn(9) {
		m := bound(1+random.Intn(6), 1+random.Intn(6), least+random.Intn(8))
		if random.Intn(3) > 0 {
			m.Kind = 1 + random.Intn(3)
			m.A, m.B = api.Ref{Trace: 1, Id: 1 + random.Intn(3)}, api.Ref{Trace: 1, Id: 1 + random.Intn(3)}
		}
		l = append(l, m)
	}
	return append(l, l[:random.Intn(1+len(l))]...)
}

// P15.7: Equal compares the messages, in whatever order and how often they were given.
func TestEqual(t *testing.T) {
	changed := call()
	changed[0].A.Id = 3
	tighter := append(call(), bound(1, 2, 200))
	different := []*skew.Evidence{
		nil,
		evidenceOf(t, nil),
		evidenceOf(t, call()),
		evidenceOf(t, call()[:1]),
		evidenceOf(t, call()[1:]),
		evidenceOf(t, changed),
		evidenceOf(t, tighter), // with the same bounds
		evidenceOf(t, bounds(1, 2, 102, 2, 1, -90)),
	}
	for i, e := range different {
		for j, o := range different {
			if e.Equal(o) != (i == j) {
				t.Errorf("Equal of %d and %d: %v", i, j, e.Equal(o))
			}
		}
	}
	there, back := call()[0], call()[1]
	if !evidenceOf(t, call()).Equal(evidenceOf(t, []api.Message{back, there, back})) {
		t.Error("Equal of the same messages")
	}
}

// P1 and the contract: methods of a nil evidence.
func TestNil(t *testing.T) {
	var e *skew.Evidence
	with, f := e.With(call())
	expectErr(t, "With", f, api.ErrArgument)
	if with != nil || e.Messages() != nil || e.Clocks() != nil || e.Components() != nil {
		t.Error("a nil evidence has something")
	}
	component, f := e.Component(1)
	expectErr(t, "Component", f, api.ErrArgument)
	expectInts(t, "Component", component)
	isConsistent, f := e.Consistent(1)
	expectErr(t, "Consistent", f, api.ErrArgument)
	greatest, g := e.Greatest(1, 1)
	expectErr(t, "Greatest", g, api.ErrArgument)
	if isConsistent || greatest != 0 {
		t.Errorf("Consistent: %v, Greatest: %d", isConsistent, greatest)
	}
	contradiction, f := e.Contradiction(1)
	expectErr(t, "Contradiction", f, api.ErrArgument)
	minimal, f := e.Minimal(1)
	expectErr(t, "Minimal", f, api.ErrArgument)
	chain, f := e.Chain(1, 1)
	expectErr(t, "Chain", f, api.ErrArgument)
	expectMessages(t, "messages", slices.Concat(contradiction, minimal, chain), nil)
	between, f := e.Between(1, 1)
	expectErr(t, "Between", f, api.ErrArgument)
	if between != (skew.Bounds{}) {
		t.Errorf("Between: %v", between)
	}
	v, f := e.Attain(1, 1)
	expectOffsets(t, "Attain", v, f, nil, api.ErrArgument)
	v, f = e.Assignment(1)
	expectOffsets(t, "Assignment", v, f, nil, api.ErrArgument)
	expectErr(t, "Check", e.Check(nil), api.ErrArgument)
	if !e.Equal(nil) || e.Equal(&skew.Evidence{}) {
		t.Error("Equal of a nil evidence")
	}
}

// Rules: arguments are neither modified nor retained, and results share nothing with the evidence.
func TestIndependent(t *testing.T) {
	given := func() []api.Message {
		return append(make([]api.Message, 0, 20), append(bounds(9, 3, 7, 3, 9, 0, 3, 3, -1, 5, 5, 0), call()...)...)
	}
	l := given()
	e := evidenceOf(t, l)
	with, _ := e.With(l)
	if !reflect.DeepEqual(l[:20:20], append(given(), make([]api.Message, 14)...)) {
		t.Fatal("an argument was modified")
	}
	said := func(e *skew.Evidence) string {
		component, _ := e.Component(1)
		cycle, _ := e.Contradiction(3)
		minimal, _ := e.Minimal(3)
		chain, _ := e.Chain(1, 2)
		attained, _ := e.Attain(1, 2)
		v, _ := e.Assignment(1)
		text := fmt.Sprint(e.Messages(), e.Clocks(), e.Components(), component, cycle, minimal, chain, attained, v)
		clear(component)
		clear(cycle)
		clear(minimal)
		clear(chain)
		clear(attained)
		clear(v)
		clear(e.Messages())
		clear(e.Clocks())
		components := e.Components()
		clear(components[0])
		clear(components)
		return text
	}
	before := said(e)
	clear(l[:20])
	for _, o := range []*skew.Evidence{e, with} {
		if after := said(o); after != before {
			t.Errorf("the evidence has changed: %s, and then %s", before, after)
		}
	}
}
