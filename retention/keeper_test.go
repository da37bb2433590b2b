package retention_test

import (
	"fmt"
	"maps"
	"math"
	"math/rand"
	"slices"
	"testing"

	"sleuth/api"
	"sleuth/retention"
	"sleuth/sampling"
	"sleuth/span"
)

// at returns a trace of a slot.
func at(slot, n int) int { return slot<<api.SlotBits + n }

// record returns a valid span.
func record(trace, id int) api.Span {
	return api.Span{Trace: trace, Id: id, Clock: 1, Kind: api.Server, Service: "api", Operation: "get", Start: 10, End: 30}
}

func failed(s api.Span) api.Span {
	s.Error = true
	return s
}

// revised returns a later record of a span.
func revised(s api.Span, revision int) api.Span {
	s.Revision = revision
	return s
}

// in returns the span of another service.
func in(service string, s api.Span) api.Span {
	s.Service = service
	return s
}

// made returns a keeper with a policy and records.
func made(t *testing.T, p retention.Policy, l ...api.Span) *retention.Keeper {
	t.Helper()
	k, e := retention.New(p)
	if e != api.OK || k == nil {
		t.Fatalf("New: %v, %d", k, e)
	}
	expectAdded(t, k, 0, l...)
	return k
}

// expectAdded adds records, and expects how many are late.
func expectAdded(t *testing.T, k *retention.Keeper, late int, l ...api.Span) {
	t.Helper()
	if got, e := k.Add(l); got != late || e != api.OK {
		t.Errorf("Add of %d records: %d, %d; want %d", len(l), got, e, late)
	}
}

// expectApplied applies a slot, and expects how many traces are removed.
func expectApplied(t *testing.T, k *retention.Keeper, slot, want int) {
	t.Helper()
	if got, e := k.Apply(slot); got != want || e != api.OK || k.Now() != slot {
		t.Errorf("Apply of %d: %d, %d, now %d; want %d", slot, got, e, k.Now(), want)
	}
}

func expectSpans(t *testing.T, what string, got, want []api.Span) {
	t.Helper()
	if !slices.EqualFunc(got, want, span.Equal) {
		t.Errorf("%s: %v, want %v", what, got, want)
	}
}

// isSame reports whether two traces are equal.
func isSame(a, b api.Trace) bool {
	return a.Id == b.Id && a.Weight == b.Weight && slices.EqualFunc(a.Spans, b.Spans, span.Equal)
}

func expectTraces(t *testing.T, what string, got []api.Trace, want ...api.Trace) {
	t.Helper()
	if !slices.EqualFunc(got, want, isSame) {
		t.Errorf("%s: %v, want %v", what, got, want)
	}
}

// trace returns a trace with a weight and spans.
func trace(weight int, l ...api.Span) api.Trace {
	return api.Trace{Id: l[0].Trace, Weight: weight, Spans: l}
}

func expectRemoved(t *testing.T, what string, k *retention.Keeper, want ...api.Removed) {
	t.Helper()
	if got := k.Removed(); !slices.Equal(got, want) {
		t.Errorf("%s: Removed: %v, want %v", what, got, want)
	}
}

func expectLate(t *testing.T, what string, k *retention.Keeper, want ...api.Late) {
	t.Helper()
	if got := k.Late(); !slices.Equal(got, want) {
		t.Errorf("%s: Late: %v, want %v", what, got, want)
	}
}

// P33.2 to P33.5: the first example of the document.
func TestFirstExample(t *testing.T) {
	a, b, other := record(at(3, 1), 1), failed(in("db", record(at(3, 1), 2))), record(at(4, 1), 1)
	k := made(t, ages(1, 2), a)
	expectApplied(t, k, 15, 0)
	expectTraces(t, "at 15", k.Traces(), trace(1, a))
	expectApplied(t, k, 16, 0)
	expectTraces(t, "at 16", k.Traces(), trace(1, a))
	expectAdded(t, k, 0, b)
	expectAdded(t, k, 1, other)
	expectTraces(t, "at 16", k.Traces(), trace(1, a, b))
	expectLate(t, "at 16", k, api.Late{Partition: 0, Spans: 1})
	expectRemoved(t, "at 16", k)
	expectApplied(t, k, 31, 0)
	expectApplied(t, k, 32, 1)
	expectTraces(t, "at 32", k.Traces())
	expectSpans(t, "at 32", k.Records(), nil)
	expectRemoved(t, "at 32", k, api.Removed{Service: "api", Spans: 1}, api.Removed{Service: "db", Spans: 1, Errors: 1})
	expectLate(t, "at 32", k, api.Late{Spans: 1})
	expectAdded(t, k, 1, a)
	expectLate(t, "behind it", k, api.Late{Spans: 2})
	if k.Has(at(3, 1)) {
		t.Errorf("what was removed has come back")
	}
}

// P33.2: the second example of the document.
func TestSecondExample(t *testing.T) {
	k := made(t, ages(0, 0))
	expectAdded(t, k, 3, record(at(0, 1), 1), record(at(15, 1), 1), record(at(0, 1), 1))
	expectLate(t, "all", k, api.Late{Partition: 0, Spans: 3})
	expectSpans(t, "all", k.Records(), nil)
	// The partition 1 has an age less than 0.
	expectAdded(t, k, 0, record(at(16, 1), 1))
	expectApplied(t, k, 15, 0)
	expectApplied(t, k, 16, 1)
	expectRemoved(t, "all", k, api.Removed{Partition: 1, Service: "api", Spans: 1})
}

// P33.2: each record is kept once, and belongs to the trace that is retained, whatever its tier is.
func TestAdd(t *testing.T) {
	a, b := record(at(3, 7), 1), record(at(20, 7), 1)
	k := made(t, ages(2, 3), b, a, b, revised(a, 1), a)
	expectAdded(t, k, 0)
	expectAdded(t, k, 0, a, b)
	expectSpans(t, "Records", k.Records(), []api.Span{a, revised(a, 1), b})
	expectTraces(t, "Traces", k.Traces(), trace(1, revised(a, 1)), trace(1, b))
	expectApplied(t, k, 32, 0)
	// The partition 0 is sampled now, 1 is still full.
	late := record(at(3, 8), 1)
	expectAdded(t, k, 3, late, record(at(3, 7), 2), late, record(at(20, 8), 1), record(at(2, 1), 1), revised(a, 2))
	expectTraces(t, "later", k.Traces(), trace(1, revised(a, 2), record(at(3, 7), 2)), trace(1, b), trace(1, record(at(20, 8), 1)))
	expectLate(t, "later", k, api.Late{Partition: 0, Spans: 3})
	expectApplied(t, k, 64, 3)
	expectAdded(t, k, 4, a, b, b, record(at(49, 1), 1), record(at(16, 9), 1))
	expectLate(t, "at last", k, api.Late{Partition: 0, Spans: 4}, api.Late{Partition: 1, Spans: 3})
	expectTraces(t, "at last", k.Traces(), trace(1, record(at(49, 1), 1)))
}

// P33.2: the first record with an error decides, and nothing is added or counted.
func TestAddErrors(t *testing.T) {
	good, unnamed, turned := record(at(40, 1), 1), record(at(40, 1), 2), record(at(40, 1), 3)
	unnamed.Service = ""
	turned.End = 0
	late := record(at(3, 1), 1)
	for _, c := range []struct {
		l []api.Span
		e api.Errno
	}{
		{[]api.Span{{}}, api.ErrRange},
		{[]api.Span{good, unnamed, turned}, api.ErrName},
		{[]api.Span{late, turned, unnamed}, api.ErrOrder},
		{[]api.Span{late, record(0, 1)}, api.ErrRange},
		{[]api.Span{good, record(-5, 1)}, api.ErrRange},
		{[]api.Span{good, record(api.MaxId+1, 1)}, api.ErrRange},
	} {
		k := made(t, ages(1, 2))
		expectApplied(t, k, 40, 0)
		want := k.Clone()
		got, e := k.Add(c.l)
		expectErr(t, fmt.Sprintf("Add of %v", c.l), e, c.e)
		if got != 0 || !k.Equal(want) {
			t.Errorf("Add of %v: %d, %v", c.l, got, k)
		}
	}
}

// P33.3: the errors of Apply, behind which nothing has changed.
func TestApplyErrors(t *testing.T) {
	k := made(t, ages(1, 2), record(at(3, 1), 1))
	for _, slot := range []int{-1, api.MaxSlot + 1, math.MinInt, math.MaxInt} {
		n, e := k.Apply(slot)
		expectErr(t, fmt.Sprint("Apply of ", slot), e, api.ErrTime)
		if n != 0 || k.Now() != 0 || !k.Has(at(3, 1)) {
			t.Errorf("Apply of %d: %d, now %d", slot, n, k.Now())
		}
	}
	expectApplied(t, k, 9, 0)
	expectApplied(t, k, 9, 0)
	want := k.Clone()
	for _, c := range []struct {
		slot int
		e    api.Errno
	}{{8, api.ErrOrder}, {0, api.ErrOrder}, {-1, api.ErrTime}} {
		n, e := k.Apply(c.slot)
		expectErr(t, fmt.Sprint("Apply of ", c.slot), e, c.e)
		if n != 0 || !k.Equal(want) {
			t.Errorf("Apply of %d: %d, now %d", c.slot, n, k.Now())
		}
	}
	expectApplied(t, k, api.MaxSlot, 1)
	expectApplied(t, k, api.MaxSlot, 0)
}

// P33.3: sampling keeps traces as the policy says, and gives them weights; the others are counted.
func TestSample(t *testing.T) {
	p := with(1, 3, 77, 2, sampling.Rule{Where: is("error"), Exponent: 0}, sampling.Rule{Where: is("root"), Exponent: 4})
	var all []api.Span
	for n := range 200 {
		s := record(at(n%16, n+1), 1)
		s.Parent, s.Service = n%3, []string{"api", "db"}[n%2]
		s.Error = n%5 == 0
		// The later record of each trace decides.
		all = append(all, s, failed(revised(record(s.Trace, 2), 0)), revised(record(s.Trace, 2), 1+n%2))
	}
	other := record(at(48, 1), 1)
	k := made(t, p, append([]api.Span{other}, all...)...)
	before := k.Traces()[:200]
	kept, gone, e := sampling.Sample(p.Sampling, p.Seed, before)
	if e != api.OK || len(kept) < 20 || len(gone) < 20 {
		t.Fatalf("Sample: %d, %d, %d", len(kept), len(gone), e)
	}
	expectApplied(t, k, 15, 0)
	expectTraces(t, "before", k.Traces(), append(before, trace(1, other))...)
	expectApplied(t, k, 16, len(gone))
	expectTraces(t, "sampled", k.Traces(), append(kept, trace(1, other))...)
	want := map[string]api.Removed{}
	for _, x := range gone {
		if k.Has(x.Id) {
			t.Errorf("the trace %d is there", x.Id)
		}
		for _, s := range x.Spans {
			r := want[s.Service]
			r.Service = s.Service
			r.Spans++
			if s.Error {
				r.Errors++
			}
			want[s.Service] = r
		}
	}
	expectRemoved(t, "sampled", k, want["api"], want["db"])
	var records []api.Span
	for _, s := range all {
		if k.Has(s.Trace) {
			records = append(records, s)
		}
	}
	expectSpans(t, "all records of what is kept", k.Records(), span.Set(append(records, other)))
	// A further span leaves the weight as it is, whatever the policy says now.
	for _, x := range kept {
		expectAdded(t, k, 0, failed(record(x.Id, 3)))
	}
	for n, x := range k.Traces()[:len(kept)] {
		if x.Weight != kept[n].Weight || len(x.Spans) != 3 {
			t.Errorf("the trace %d has the weight %d and %d spans", x.Id, x.Weight, len(x.Spans))
		}
	}
	expectAdded(t, k, len(gone), slices.Collect(func(yield func(api.Span) bool) {
		for _, x := range gone {
			yield(x.Spans[0])
		}
	})...)
	expectLate(t, "sampled", k, api.Late{Partition: 0, Spans: len(gone)})
	// Neither does a slot by which no tier changes, nor the change of another partition.
	weights := k.Traces()
	expectApplied(t, k, 31, 0)
	expectTraces(t, "at 31", k.Traces(), weights...)
	expectApplied(t, k, 48, len(kept))
	if n := len(k.Traces()); n != 1 {
		t.Errorf("%d traces are left", n)
	}
}

// P33.3: a partition becomes older by several tiers at once, and several partitions at the same time.
func TestSkip(t *testing.T) {
	p := with(1, 2, 0, 10)
	l := []api.Span{record(at(3, 1), 1), record(at(3, 1), 2), failed(record(at(17, 1), 1)), record(at(34, 1), 1), in("web", record(at(50, 1), 1))}
	k := made(t, p, l...)
	expectApplied(t, k, 48, 3)
	expectRemoved(t, "at 48", k, api.Removed{Partition: 0, Service: "api", Spans: 2},
		api.Removed{Partition: 1, Service: "api", Spans: 1, Errors: 1}, api.Removed{Partition: 2, Service: "api", Spans: 1})
	expectTraces(t, "at 48", k.Traces(), trace(1, l[4]))
	expectApplied(t, k, 1000, 1)
	expectSpans(t, "at last", k.Records(), nil)
}

// P33.4: whether a trace is retained.
func TestHas(t *testing.T) {
	k := made(t, ages(1, 1), record(at(3, 5), 1), record(at(30, 5), 1))
	for _, c := range []struct {
		trace int
		want  bool
	}{
		{at(3, 5), true}, {at(30, 5), true}, {at(3, 6), false}, {at(4, 5), false},
		{0, false}, {-1, false}, {math.MinInt, false}, {math.MaxInt, false},
	} {
		if got := k.Has(c.trace); got != c.want {
			t.Errorf("Has of %d: %v", c.trace, got)
		}
	}
	expectApplied(t, k, 16, 1)
	if k.Has(at(3, 5)) || !k.Has(at(30, 5)) {
		t.Errorf("Has behind Apply: %v, %v", k.Has(at(3, 5)), k.Has(at(30, 5)))
	}
}

// P33.5: what was removed, and what was late, in order; both of several partitions.
func TestCounts(t *testing.T) {
	var l []api.Span
	for n, service := range []string{"web", "api", "~", "api2", "Z"} {
		l = append(l, in(service, record(at(3, 1), n+1)), in(service, failed(record(at(20, 1), n+1))), in(service, record(at(170, 2), n+1)))
	}
	k := made(t, ages(1, 1), l...)
	expectApplied(t, k, 300, 3)
	var want []api.Removed
	for _, c := range []struct{ partition, errors int }{{0, 0}, {1, 1}, {10, 0}} {
		for _, service := range []string{"Z", "api", "api2", "web", "~"} {
			want = append(want, api.Removed{Partition: c.partition, Service: service, Spans: 1, Errors: c.errors})
		}
	}
	expectRemoved(t, "three partitions", k, want...)
	expectAdded(t, k, 18, append(l, l[2], l[5], l[0])...)
	expectLate(t, "three partitions", k, api.Late{Partition: 0, Spans: 6}, api.Late{Partition: 1, Spans: 5}, api.Late{Partition: 10, Spans: 7})
	expectRemoved(t, "late ones", k, want...)
}

// P33.5: all of it together.
func TestRetained(t *testing.T) {
	a, b := record(at(3, 1), 1), record(at(40, 1), 1)
	k := made(t, ages(1, 1), a, b)
	expectApplied(t, k, 40, 1)
	expectAdded(t, k, 1, a)
	exchanges := []api.Exchange{{From: 2, To: 1, Sent: 5, Received: 9, Least: 1}, {From: 1, To: 2}}
	r := k.Retained(exchanges)
	expectTraces(t, "Retained", r.Traces, trace(1, b))
	if !slices.Equal(r.Exchanges, exchanges) || !slices.Equal(r.Removed, k.Removed()) || !slices.Equal(r.Late, k.Late()) {
		t.Errorf("Retained: %v", r)
	}
	if len(r.Removed) != 1 || len(r.Late) != 1 {
		t.Errorf("Retained: %v", r)
	}
	r.Exchanges[0].From = 9
	if exchanges[0].From != 2 {
		t.Errorf("Retained shares the exchanges")
	}
	r = made(t, ages(1, 1)).Retained(nil)
	if len(r.Traces)+len(r.Exchanges)+len(r.Removed)+len(r.Late) > 0 {
		t.Errorf("Retained of nothing: %v", r)
	}
}

// different returns keepers each of which differs from all others.
func different(t *testing.T) []*retention.Keeper {
	t.Helper()
	a := record(at(3, 1), 1)
	rule := sampling.Rule{Where: both(is("error"), is("root")), Exponent: 2}
	other, less := rule, rule
	other.Where = both(is("error"), is("error"))
	less.Exponent = 1
	all := []*retention.Keeper{nil}
	for _, p := range []retention.Policy{
		{}, ages(1, 2), ages(0, 2), ages(1, 3), with(1, 2, 5, 0), with(1, 2, 0, 3),
		with(1, 2, 0, 0, rule), with(1, 2, 0, 0, other), with(1, 2, 0, 0, less), with(1, 2, 0, 0, rule, less),
	} {
		all = append(all, made(t, p))
	}
	applied := func(p retention.Policy, slot int, l ...api.Span) *retention.Keeper {
		k := made(t, p, l...)
		k.Apply(slot)
		return k
	}
	late := func(k *retention.Keeper, l ...api.Span) *retention.Keeper {
		expectAdded(t, k, len(l), l...)
		return k
	}
	return append(all,
		applied(ages(1, 2), 1),
		applied(ages(1, 2), 2),
		made(t, ages(1, 2), a),
		made(t, ages(1, 2), failed(a)),
		made(t, ages(1, 2), a, revised(a, 1)),
		made(t, ages(1, 2), revised(a, 1)),
		applied(ages(1, 1), 16),
		applied(ages(1, 1), 16, a),
		applied(ages(1, 1), 16, failed(a)),
		applied(ages(1, 1), 16, in("db", a)),
		applied(ages(1, 1), 16, a, record(at(3, 1), 2)),
		late(applied(ages(1, 1), 16, a), a),
		late(applied(ages(1, 1), 16, a), a, a),
		late(applied(ages(1, 1), 32, a), a),
		late(applied(ages(1, 1), 32, a), record(at(17, 1), 1)),
		// A trace that is kept with another weight.
		applied(with(0, 2, 0, 0, sampling.Rule{Where: is("error"), Exponent: 10}), 16, record(at(16, 340), 1)),
	)
}

// P33.6: Equal tells different keepers apart, and copies are equal.
func TestEqual(t *testing.T) {
	all := different(t)
	for i, k := range all {
		for j, o := range all {
			if k.Equal(o) != (i == j) {
				t.Errorf("Equal of %d and %d: %v", i, j, k.Equal(o))
			}
		}
		c := k.Clone()
		if !c.Equal(k) || !k.Equal(c) || (c == k) != (k == nil) {
			t.Errorf("Clone of %d", i)
		}
	}
	again := different(t)
	for i, k := range all {
		if !k.Equal(again[i]) {
			t.Errorf("Equal of %d and the same again", i)
		}
	}
	empty := ages(1, 2)
	empty.Sampling.Rules = []sampling.Rule{}
	if k := made(t, empty); !k.Equal(made(t, ages(1, 2))) || !made(t, ages(1, 2)).Equal(k) {
		t.Errorf("nil and empty lists of rules differ")
	}
}

// P33.6: keepers that differ in the weight of a trace only.
func TestEqualWeights(t *testing.T) {
	// The keeper samples the trace while it has no error, or only when it has one.
	id := at(3, 1)
	for sampling.Hash(id)%sampling.Seeds > 0 {
		id++
	}
	p := with(1, 3, 0, 1, sampling.Rule{Where: is("error"), Exponent: 2})
	early, late := made(t, p, record(id, 1), failed(record(id, 2))), made(t, p, record(id, 1))
	expectApplied(t, early, 16, 0)
	expectApplied(t, late, 16, 0)
	expectAdded(t, late, 0, failed(record(id, 2)))
	expectSpans(t, "the records", early.Records(), late.Records())
	if early.Traces()[0].Weight != 4 || late.Traces()[0].Weight != 2 || early.Equal(late) || late.Equal(early) {
		t.Errorf("the weights %d and %d, equal: %v", early.Traces()[0].Weight, late.Traces()[0].Weight, early.Equal(late))
	}
}

// P33.6: what happens to a copy does not happen to the keeper, and conversely.
func TestClone(t *testing.T) {
	a, b := record(at(3, 1), 1), record(at(20, 1), 1)
	p := with(1, 2, 0, 0, sampling.Rule{Where: both(is("error")), Exponent: 1})
	changes := []func(k *retention.Keeper){
		func(k *retention.Keeper) { k.Add([]api.Span{revised(b, 1)}) },
		func(k *retention.Keeper) { k.Add([]api.Span{record(at(20, 2), 1)}) },
		func(k *retention.Keeper) { k.Add([]api.Span{record(at(40, 2), 1)}) },
		func(k *retention.Keeper) { k.Add([]api.Span{record(at(1, 2), 1)}) },
		func(k *retention.Keeper) { k.Apply(17) },
		func(k *retention.Keeper) { k.Apply(32) },
		func(k *retention.Keeper) { k.Apply(64) },
	}
	for n, change := range changes {
		k := made(t, p, a, b)
		k.Apply(16)
		c, want := k.Clone(), k.Clone()
		change(c)
		if !k.Equal(want) || c.Equal(k) {
			t.Errorf("the change %d of the copy changes the keeper", n)
		}
		change(k)
		if !c.Equal(k) || k.Equal(want) {
			t.Errorf("the change %d differs for the copy", n)
		}
	}
}

// model is the rules of a keeper, applied to lists.
type model struct {
	policy  retention.Policy
	now     int
	records []api.Span
	weights map[int]int
	removed map[[2]string]api.Removed
	late    map[int]int
}

func (m *model) add(l []api.Span) int {
	late := 0
	for _, s := range l {
		p := s.Trace >> 24
		if retention.Tier(m.policy, m.now, p) != retention.TierFull && m.weights[s.Trace] == 0 {
			m.late[p]++
			late++
			continue
		}
		m.records = append(m.records, s)
		if m.weights[s.Trace] == 0 {
			m.weights[s.Trace] = 1
		}
	}
	return late
}

func (m *model) apply(slot int) int {
	before := m.now
	m.now = slot
	removed := 0
	for _, id := range slices.Sorted(maps.Keys(m.weights)) {
		tier := retention.Tier(m.policy, slot, id>>24)
		if tier == retention.Tier(m.policy, before, id>>24) {
			continue
		}
		spans := span.Of(m.records, id)
		kept, _, _ := sampling.Sample(m.policy.Sampling, m.policy.Seed, []api.Trace{{Id: id, Weight: 1, Spans: spans}})
		if tier == retention.TierSampled && len(kept) == 1 {
			m.weights[id] = kept[0].Weight
			continue
		}
		removed++
		delete(m.weights, id)
		m.records = slices.DeleteFunc(m.records, func(s api.Span) bool { return s.Trace == id })
		for _, s := range spans {
			key := [2]string{fmt.Sprintf("%09d", id>>24), s.Service}
			r := m.removed[key]
			r.Partition, r.Service = id>>24, s.Service
			r.Spans++
			if s.Error {
				r.Errors++
			}
			m.removed[key] = r
		}
	}
	return removed
}

func (m *model) expect(t *testing.T, k *retention.Keeper) {
	t.Helper()
	expectSpans(t, "Records", k.Records(), span.Set(m.records))
	var traces []api.Trace
	for _, id := range slices.Sorted(maps.Keys(m.weights)) {
		traces = append(traces, api.Trace{Id: id, Weight: m.weights[id], Spans: span.Of(m.records, id)})
	}
	expectTraces(t, "Traces", k.Traces(), traces...)
	var removed []api.Removed
	for _, key := range slices.SortedFunc(maps.Keys(m.removed), func(a, b [2]string) int { return slices.Compare(a[:], b[:]) }) {
		removed = append(removed, m.removed[key])
	}
	expectRemoved(t, "the model", k, removed...)
	var late []api.Late
	for _, p := range slices.Sorted(maps.Keys(m.late)) {
		late = append(late, api.Late{Partition: p, Spans: m.late[p]})
	}
	expectLate(t, "the model", k, late...)
}

// someRecords returns random records around a slot.
func someRecords(rng *rand.Rand, slot int) []api.Span {
	var l []api.Span
	for range rng.Intn(12) {
		s := record(at(max(0, slot-40+rng.Intn(60)), 1+rng.Intn(2)), 1+rng.Intn(3))
		s.Revision, s.Error, s.Service = rng.Intn(3), rng.Intn(3) == 0, []string{"api", "db"}[rng.Intn(2)]
		l = append(l, s)
	}
	return l
}

// somePolicy returns a random policy.
func somePolicy(rng *rand.Rand) retention.Policy {
	full := rng.Intn(3)
	return with(full, full+rng.Intn(3), rng.Intn(1024), rng.Intn(3), sampling.Rule{Where: is("error"), Exponent: rng.Intn(3)})
}

// P33.2 to P33.5: random calls, compared with the rules.
func TestModel(t *testing.T) {
	rng := rand.New(rand.NewSource(4))
	for range 150 {
		p := somePolicy(rng)
		k := made(t, p)
		m := &model{policy: p, weights: map[int]int{}, removed: map[[2]string]api.Removed{}, late: map[int]int{}}
		slot := 0
		for range 25 {
			if rng.Intn(2) == 0 {
				l := someRecords(rng, slot)
				expectAdded(t, k, m.add(l), l...)
			} else {
				slot += rng.Intn(12)
				expectApplied(t, k, slot, m.apply(slot))
			}
			m.expect(t, k)
		}
	}
}

// P33.7: neither the order nor repetitions of records matter while no tier changes.
func TestArrival(t *testing.T) {
	rng := rand.New(rand.NewSource(5))
	for range 100 {
		var l []api.Span
		for range 6 {
			l = append(l, someRecords(rng, 40)...)
		}
		k := made(t, with(3, 4, 9, 3), l...)
		mixed := append(slices.Clone(l), l[:len(l)/2]...)
		rng.Shuffle(len(mixed), func(i, j int) { mixed[i], mixed[j] = mixed[j], mixed[i] })
		o := made(t, with(3, 4, 9, 3))
		for n, s := range mixed {
			expectAdded(t, o, 0, s)
			o.Apply(15 * n / len(mixed))
		}
		k.Apply(o.Now())
		if !k.Equal(o) {
			t.Errorf("the order matters: %v, %v", k.Records(), o.Records())
		}
		expectSpans(t, "all records", k.Records(), span.Set(l))
	}
}

// sum returns how many spans and late ones were counted.
func sum(k *retention.Keeper) (removed, late int) {
	for _, r := range k.Removed() {
		removed += r.Spans
	}
	for _, x := range k.Late() {
		late += x.Spans
	}
	return removed, late
}

// P33.7: what is retained and what was removed are together what was added, as long as nothing is late; numbers never become less.
func TestSums(t *testing.T) {
	rng := rand.New(rand.NewSource(6))
	for range 150 {
		p := somePolicy(rng)
		k := made(t, p)
		identities := map[api.Ref]bool{}
		gone := map[int]bool{}
		slot := 0
		for range 15 {
			var welcome []api.Span
			for _, s := range someRecords(rng, slot) {
				if k.Has(s.Trace) || retention.Tier(p, slot, s.Trace>>24) == retention.TierFull {
					welcome = append(welcome, s)
					identities[span.RefOf(s)] = true
				}
			}
			expectAdded(t, k, 0, welcome...)
			before := k.Traces()
			removed, _ := sum(k)
			slot += rng.Intn(12)
			k.Apply(slot)
			for _, x := range before {
				if !k.Has(x.Id) {
					gone[x.Id] = true
				}
			}
			for id := range gone {
				if k.Has(id) {
					t.Errorf("the trace %d has come back", id)
				}
			}
			after, late := sum(k)
			if after < removed || late > 0 {
				t.Errorf("%d removed spans became %d, %d are late", removed, after, late)
			}
			if n := len(span.Winners(k.Records())); n+after != len(identities) {
				t.Errorf("%d spans are retained, %d were removed, %d were added", n, after, len(identities))
			}
		}
	}
}

// P33.7: slots on the way to the removal of everything make no difference to what is counted.
func TestWay(t *testing.T) {
	rng := rand.New(rand.NewSource(7))
	for range 100 {
		k := made(t, somePolicy(rng))
		k.Add(someRecords(rng, 40))
		k.Add(someRecords(rng, 60))
		direct := k.Clone()
		for slot := 0; slot < 200; slot += 1 + rng.Intn(30) {
			k.Apply(slot)
		}
		k.Apply(200)
		direct.Apply(200)
		if !k.Equal(direct) || len(k.Traces()) > 0 {
			t.Errorf("slots on the way make a difference: %v, %v", k.Removed(), direct.Removed())
		}
	}
}

// The rules of the document: arguments stay as they are and are not kept, and results are new.
func TestIndependence(t *testing.T) {
	nested := func() retention.Policy {
		return with(1, 2, 0, 0, sampling.Rule{Where: both(is("error"), both(is("root"))), Exponent: 2})
	}
	changes := []func(p retention.Policy){
		func(p retention.Policy) { p.Sampling.Rules[0].Exponent = 3 },
		func(p retention.Policy) { p.Sampling.Rules[0].Where.Op = api.PredOr },
		func(p retention.Policy) { p.Sampling.Rules[0].Where.Args[0].Field = "root" },
		func(p retention.Policy) { p.Sampling.Rules[0].Where.Args[1].Args[0].Field = "error" },
	}
	for n, change := range changes {
		p := nested()
		kept := made(t, p)
		change(p)
		if !kept.Equal(made(t, nested())) {
			t.Errorf("the keeper has kept its policy: %d", n)
		}
	}
	k := made(t, nested())
	a := record(at(3, 1), 1)
	a.Attrs = []api.Attr{{Key: "k", Value: api.Value{Kind: api.KindInt, Int: 5}}}
	l := []api.Span{record(at(4, 1), 1), a}
	expectAdded(t, k, 0, l...)
	want := k.Clone()
	if l[0].Trace != at(4, 1) {
		t.Errorf("Add has sorted its argument")
	}
	l[1].Attrs[0].Key = "changed"
	traces, records := k.Traces(), k.Records()
	traces[0].Spans[0].Attrs[0].Key, traces[1].Spans[0].Service = "changed", "changed"
	records[0].Attrs[0].Key = "changed"
	if !k.Equal(want) {
		t.Errorf("the keeper shares lists")
	}
	r := k.Retained(nil)
	r.Traces[0].Spans[0].Attrs[0].Key = "changed"
	k.Apply(32)
	k.Removed()[0].Spans = 99
	want.Apply(32)
	if !k.Equal(want) {
		t.Errorf("the keeper shares what it counts")
	}
}

// P1: keepers that are nil.
func TestNil(t *testing.T) {
	var k *retention.Keeper
	n, e := k.Add([]api.Span{{}})
	if n != 0 || e != api.ErrArgument {
		t.Errorf("Add: %d, %d", n, e)
	}
	n, e = k.Apply(-1)
	if n != 0 || e != api.ErrArgument {
		t.Errorf("Apply: %d, %d", n, e)
	}
	r := k.Retained([]api.Exchange{{From: 1}})
	if k.Now() != 0 || k.Traces() != nil || k.Records() != nil || k.Has(1) || k.Removed() != nil || k.Late() != nil || k.Clone() != nil {
		t.Errorf("a keeper that is nil has something")
	}
	if r.Traces != nil || r.Exchanges != nil || r.Removed != nil || r.Late != nil {
		t.Errorf("Retained: %v", r)
	}
	if !k.Equal(nil) || k.Equal(&retention.Keeper{}) || (&retention.Keeper{}).Equal(k) {
		t.Errorf("Equal of nil")
	}
}

// P1: a keeper that New has not made is one with the zero policy.
func TestZeroKeeper(t *testing.T) {
	for _, k := range []*retention.Keeper{{}, (&retention.Keeper{}).Clone(), made(t, retention.Policy{})} {
		if !k.Equal(&retention.Keeper{}) || !k.Equal(made(t, retention.Policy{})) {
			t.Errorf("the zero keeper is not an empty one")
		}
		if k.Has(5) || len(k.Traces())+len(k.Records())+len(k.Removed())+len(k.Late()) > 0 {
			t.Errorf("the zero keeper is not empty")
		}
		expectApplied(t, k.Clone(), 16, 0)
		expectAdded(t, k, 1, record(at(3, 1), 1), record(at(20, 1), 1))
		expectApplied(t, k, 16, 1)
		expectLate(t, "the zero keeper", k, api.Late{Spans: 1})
		expectRemoved(t, "the zero keeper", k, api.Removed{Partition: 1, Service: "api", Spans: 1})
	}
}
