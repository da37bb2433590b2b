package fragment_test

import (
	"fmt"
	"math"
	"math/rand"
	"reflect"
	"slices"
	"testing"

	"sleuth/api"
	"sleuth/fragment"
	"sleuth/span"
)

// add adds fragments, and returns how many records the set has more.
func add(t *testing.T, s *fragment.Set, l ...api.Fragment) int {
	t.Helper()
	more := 0
	for _, f := range l {
		n, e := s.Add(f)
		expectErr(t, "Add", e, api.OK)
		more += n
	}
	return more
}

// setOf returns the set of some fragments.
func setOf(t *testing.T, l ...api.Fragment) *fragment.Set {
	t.Helper()
	s := fragment.New()
	add(t, s, l...)
	return s
}

// expectCount compares what Add or Merge returns.
func expectCount(t *testing.T, what string, n int, e api.Errno, want int, wantErr api.Errno) {
	t.Helper()
	if n != want || e != wantErr {
		t.Errorf("%s: %d, %d; want %d, %d", what, n, e, want, wantErr)
	}
}

// ordered returns the different elements of a list in order, found by looking for the least one that is left.
func ordered[T any](l []T, compare func(a, b T) int) []T {
	var set []T
	for {
		least := -1
		for k, x := range l {
			isLeft := len(set) == 0 || compare(x, set[len(set)-1]) > 0
			if isLeft && (least < 0 || compare(x, l[least]) < 0) {
				least = k
			}
		}
		if least < 0 {
			return set
		}
		set = append(set, l[least])
	}
}

// a model is the fragments of a set, in canonical form, in no order.
type model []api.Fragment

func modelOf(l []api.Fragment) model {
	var m model
	for _, f := range l {
		m = append(m, fragment.Canonical(f))
	}
	return m
}

func (m model) fragments() []api.Fragment { return ordered(m, fragment.Compare) }

func (m model) records() []api.Span {
	var l []api.Span
	for _, f := range m {
		l = append(l, f.Spans...)
	}
	return ordered(l, span.Compare)
}

func (m model) exchanges() []api.Exchange {
	var l []api.Exchange
	for _, f := range m {
		l = append(l, f.Exchanges...)
	}
	return ordered(l, fragment.CompareExchanges)
}

// chosen returns the fragments that satisfy a condition.
func chosen(l []api.Fragment, isChosen func(f api.Fragment) bool) []api.Fragment {
	return slices.DeleteFunc(slices.Clone(l), func(f api.Fragment) bool { return !isChosen(f) })
}

// has reports whether there is a fragment with an identity.
func (m model) has(agent, seq int) bool {
	return slices.ContainsFunc(m, func(f api.Fragment) bool { return f.Agent == agent && f.Seq == seq })
}

// expectSet compares all that a set says with a model. Agents and numbers are less than 9.
func expectSet(t *testing.T, what string, s *fragment.Set, m model) {
	t.Helper()
	all := m.fragments()
	expectFragments(t, what+": Fragments", s.Fragments(), all)
	expectList(t, what+": Records", s.Records(), m.records())
	expectList(t, what+": Spans", s.Spans(), span.Winners(m.records()))
	expectList(t, what+": Exchanges", s.Exchanges(), m.exchanges())
	var agents []int
	var conflicts []fragment.Id
	for agent := range 9 {
		prefix, last := -1, -1
		for seq := range 9 {
			with := chosen(all, func(f api.Fragment) bool { return f.Agent == agent && f.Seq == seq })
			expectFragments(t, what+": Get", s.Get(agent, seq), with)
			if len(with) > 1 {
				conflicts = append(conflicts, fragment.Id{Agent: agent, Seq: seq})
			}
			if len(with) > 0 {
				last = seq
			} else if prefix < 0 {
				prefix = seq
			}
		}
		if last >= 0 {
			agents = append(agents, agent)
		}
		if got := s.Prefix(agent); got != prefix {
			t.Errorf("%s: Prefix of %d: %d, want %d", what, agent, got, prefix)
		}
		expectGaps(t, what, s.Gaps(agent), m, agent, last)
	}
	expectList(t, what+": Agents", s.Agents(), agents)
	expectList(t, what+": Conflicts", s.Conflicts(), conflicts)
}

// expectGaps compares the gaps of an agent with what a model has before its last fragment.
func expectGaps(t *testing.T, what string, gaps []api.Interval, m model, agent, last int) {
	t.Helper()
	for seq := range 9 {
		isMissing := slices.ContainsFunc(gaps, func(i api.Interval) bool { return i.From <= seq && seq < i.To })
		if isMissing != (seq < last && !m.has(agent, seq)) {
			t.Errorf("%s: Gaps of %d: %v", what, agent, gaps)
		}
	}
	for k, i := range gaps {
		if i.From >= i.To || k > 0 && i.From <= gaps[k-1].To {
			t.Errorf("%s: Gaps of %d are not the least list: %v", what, agent, gaps)
		}
	}
}

// P12.5: the first example of the document.
func TestGaps(t *testing.T) {
	s := setOf(t, pack(4, 5), pack(4, 0), pack(4, 1))
	if s.Prefix(4) != 2 {
		t.Errorf("Prefix: %d", s.Prefix(4))
	}
	expectList(t, "Gaps", s.Gaps(4), []api.Interval{{From: 2, To: 5}})
	add(t, s, pack(4, 7), pack(4, 9), pack(4, 10), pack(9, 2), pack(1, 0), pack(1, api.MaxSmall))
	expectList(t, "Gaps", s.Gaps(4), []api.Interval{{From: 2, To: 5}, {From: 6, To: 7}, {From: 8, To: 9}})
	expectList(t, "Gaps", s.Gaps(9), []api.Interval{{From: 0, To: 2}})
	expectList(t, "Gaps", s.Gaps(1), []api.Interval{{From: 1, To: api.MaxSmall}})
	expectList(t, "Gaps", s.Gaps(2), nil)
	expectList(t, "Agents", s.Agents(), []int{1, 4, 9})
	for agent, want := range map[int]int{1: 1, 2: 0, 4: 2, 9: 0, 0: 0, -1: 0, math.MaxInt: 0} {
		if got := s.Prefix(agent); got != want {
			t.Errorf("Prefix of %d: %d", agent, got)
		}
	}
	add(t, s, pack(4, 3), pack(4, 2), pack(4, 4))
	if s.Prefix(4) != 6 {
		t.Errorf("Prefix: %d", s.Prefix(4))
	}
	expectList(t, "Gaps", s.Gaps(4), []api.Interval{{From: 6, To: 7}, {From: 8, To: 9}})
}

// P12.3 to P12.6: the second example of the document.
func TestConflicts(t *testing.T) {
	a, b := record(1, 2, 3), record(1, 3, 3)
	x, y := exchange(1, 2, 3, 4, 5), exchange(1, 2, 3, 4, 6)
	s := fragment.New()
	n, e := s.Add(pack(1, 1, a, x))
	expectCount(t, "Add", n, e, 2, api.OK)
	n, e = s.Add(pack(1, 1, a, x, a, x, x))
	expectCount(t, "Add of what is there", n, e, 0, api.OK)
	expectList(t, "Conflicts", s.Conflicts(), nil)
	n, e = s.Add(pack(1, 1, b, x))
	expectCount(t, "Add of a conflict", n, e, 1, api.OK)
	n, e = s.Add(pack(1, 1))
	expectCount(t, "Add of an empty fragment", n, e, 0, api.OK)
	n, e = s.Add(pack(2, 0, a, b, x, y))
	expectCount(t, "Add of another one", n, e, 1, api.OK)
	n, e = s.Add(pack(2, 1, b, x))
	expectCount(t, "Add of records that are there", n, e, 0, api.OK)
	expectFragments(t, "Get", s.Get(1, 1), []api.Fragment{pack(1, 1), pack(1, 1, a, x), pack(1, 1, b, x)})
	expectFragments(t, "Get", s.Get(2, 1), []api.Fragment{pack(2, 1, b, x)})
	for _, id := range []fragment.Id{{Agent: 1}, {Agent: 1, Seq: 2}, {Agent: 3, Seq: 1}, {}, {Agent: math.MinInt, Seq: math.MaxInt}} {
		expectFragments(t, fmt.Sprint("Get of ", id), s.Get(id.Agent, id.Seq), nil)
	}
	expectList(t, "Conflicts", s.Conflicts(), []fragment.Id{{Agent: 1, Seq: 1}})
	expectList(t, "Records", s.Records(), []api.Span{a, b})
	expectList(t, "Exchanges", s.Exchanges(), []api.Exchange{x, y})
	late := a
	late.Revision, late.End = 1, 2
	add(t, s, pack(7, 7, late), pack(2, 0, late))
	expectList(t, "Conflicts", s.Conflicts(), []fragment.Id{{Agent: 1, Seq: 1}, {Agent: 2, Seq: 0}})
	expectList(t, "Records", s.Records(), []api.Span{a, late, b})
	expectList(t, "Spans", s.Spans(), []api.Span{late, b})
}

// P12.3 to P12.7: random fragments, and sets that are merged.
func TestSetsOfMany(t *testing.T) {
	random := rand.New(rand.NewSource(3))
	for range 150 {
		var sets [2]*fragment.Set
		var models [2]model
		for k := range sets {
			sets[k] = fragment.New()
			for range random.Intn(9) {
				f := somePack(random)
				before := len(models[k].records()) + len(models[k].exchanges())
				models[k] = append(models[k], fragment.Canonical(f))
				n, e := sets[k].Add(f)
				expectCount(t, "Add", n, e, len(models[k].records())+len(models[k].exchanges())-before, api.OK)
			}
			expectSet(t, "Add", sets[k], models[k])
		}
		isOther := func(f api.Fragment) bool {
			return !slices.ContainsFunc(models[1], func(g api.Fragment) bool { return fragment.Compare(f, g) == 0 })
		}
		others := chosen(models[0].fragments(), isOther)
		expectFragments(t, "Without", sets[0].Without(sets[1]), others)
		expectFragments(t, "Without nil", sets[0].Without(nil), models[0].fragments())
		both := slices.Concat(models[0], models[1])
		merged := sets[0].Clone()
		n, e := merged.Merge(sets[1])
		want := len(both.records()) + len(both.exchanges()) - len(models[0].records()) - len(models[0].exchanges())
		expectCount(t, "Merge", n, e, want, api.OK)
		expectSet(t, "Merge", merged, both)
		for k := range sets {
			expectSet(t, "after Merge", sets[k], models[k])
		}
		isEqual := reflect.DeepEqual(sets[0].Fragments(), sets[1].Fragments())
		if sets[0].Equal(sets[1]) != isEqual || sets[1].Equal(sets[0]) != isEqual {
			t.Errorf("Equal is not %v", isEqual)
		}
	}
}

// P12.7.
func TestEqual(t *testing.T) {
	a, b := record(1, 2, 3), record(1, 3, 3)
	x := exchange(1, 2, 3, 4, 5)
	different := []*fragment.Set{
		nil,
		fragment.New(),
		setOf(t, pack(1, 1)),
		setOf(t, pack(1, 2)),
		setOf(t, pack(2, 1)),
		setOf(t, pack(1, 1), pack(1, 2)),
		setOf(t, pack(1, 1, a)),
		setOf(t, pack(1, 1, b)),
		setOf(t, pack(1, 1, a), pack(1, 1)),
		setOf(t, pack(1, 1, a), pack(1, 1, b)),
		setOf(t, pack(1, 1, a, b)),
		setOf(t, pack(1, 1, a, x)),
		setOf(t, pack(1, 1, a), pack(1, 2, x)),
	}
	for i, s := range different {
		for j, o := range different {
			if s.Equal(o) != (i == j) {
				t.Errorf("Equal of the sets %d and %d: %v", i, j, s.Equal(o))
			}
		}
		c := s.Clone()
		if !c.Equal(s) || !s.Equal(c) || (c == s) != (s == nil) {
			t.Errorf("Clone of the set %d", i)
		}
	}
	if !setOf(t, pack(1, 1, a, b, a), pack(1, 2, x)).Equal(setOf(t, pack(1, 2, x, x), pack(1, 1, b, a))) {
		t.Error("equal sets differ")
	}
}

// P12.7: what is added to a set is not in its copy, and conversely.
func TestClone(t *testing.T) {
	first := []api.Fragment{pack(1, 1, record(1, 2, 3), exchange(1, 2, 3, 4, 5)), pack(1, 2, record(1, 2, 4))}
	for _, more := range []api.Fragment{
		pack(1, 1, record(1, 1, 9), record(9, 9, 9), exchange(1, 1, 1, 1, 1), exchange(9, 9, 9, 9, 9)),
		pack(1, 1),
		pack(1, 2, record(1, 2, 5)),
		pack(2, 1, record(1, 2, 5)),
		pack(1, 3),
	} {
		s := setOf(t, first...)
		c := s.Clone()
		add(t, s, more)
		expectSet(t, "the copy", c, modelOf(first))
		expectSet(t, "the set", s, modelOf(append(slices.Clone(first), more)))
		c = s.Clone()
		add(t, c, pack(5, 5, record(5, 5, 5)), pack(1, 1, record(5, 5, 6)))
		expectSet(t, "the set", s, modelOf(append(slices.Clone(first), more)))
	}
	empty := fragment.New()
	c := empty.Clone()
	add(t, c, first...)
	expectSet(t, "the empty set", empty, nil)
	expectSet(t, "its copy", c, modelOf(first))
}

// P12.3: what was merged into a set is independent of the other one.
func TestMergeIndependent(t *testing.T) {
	first, second := pack(1, 1, record(1, 2, 3), exchange(1, 2, 3, 4, 5)), pack(1, 1, record(1, 1, 4), exchange(1, 1, 1, 1, 1))
	for _, l := range [][]api.Fragment{nil, {pack(3, 3, record(3, 3, 3))}, {pack(1, 1, record(9, 9, 9))}} {
		s, o := setOf(t, l...), setOf(t, first)
		_, e := s.Merge(o)
		expectErr(t, "Merge", e, api.OK)
		add(t, o, second)
		expectSet(t, "the set", s, modelOf(append(slices.Clone(l), first)))
		add(t, s, pack(1, 1, record(7, 7, 7)))
		expectSet(t, "the other one", o, modelOf([]api.Fragment{first, second}))
	}
}

// P12.3: the errors of Add and Merge for what is missing, and sets that are merged with themselves.
func TestMerge(t *testing.T) {
	f := pack(1, 1, record(1, 2, 3), exchange(1, 2, 3, 4, 5))
	s := setOf(t, f)
	n, e := s.Merge(nil)
	expectCount(t, "Merge of nil", n, e, 0, api.ErrArgument)
	n, e = s.Merge(s)
	expectCount(t, "Merge with itself", n, e, 0, api.OK)
	n, e = s.Merge(fragment.New())
	expectCount(t, "Merge of an empty set", n, e, 0, api.OK)
	expectSet(t, "Merge", s, modelOf([]api.Fragment{f}))
	n, e = fragment.New().Merge(s)
	expectCount(t, "Merge into an empty set", n, e, 2, api.OK)
	n, e = fragment.New().Merge(nil)
	expectCount(t, "Merge of nil into an empty set", n, e, 0, api.ErrArgument)
}

// full returns a set with as many fragments, records of spans, and exchanges as are permitted, or fewer.
func full(t *testing.T, size, spans, messages int) *fragment.Set {
	t.Helper()
	s := fragment.New()
	for seq := range size - 1 {
		add(t, s, pack(1, seq))
	}
	f := pack(1, api.MaxSmall)
	f.Spans, f.Exchanges = records(0, spans), exchanges(0, messages)
	add(t, s, f)
	return s
}

// P12.3: the limits of a set, for one fragment and for another set. What exceeds them changes nothing.
func TestLimits(t *testing.T) {
	const most = api.MaxRecords
	newSpan, newExchange := record(2, 1, 0), exchange(2, 2, 2, 2, 2)
	old, known := record(1, 1, 0), exchange(1, 2, 0, 0, 0)
	for _, c := range []struct {
		s    *fragment.Set
		f    api.Fragment
		want int
		e    api.Errno
	}{
		{full(t, most, 1, 1), pack(2, 0), 0, api.ErrLimit},
		{full(t, most, 1, 1), pack(1, 0, newSpan), 0, api.ErrLimit},
		{full(t, most, 1, 1), pack(1, 0), 0, api.OK},
		{full(t, most, 1, 1), pack(1, api.MaxSmall, old, known), 0, api.OK},
		{full(t, most-1, 1, 1), pack(2, 0), 0, api.OK},
		{full(t, most-1, most-1, most-1), pack(2, 0, newSpan, newExchange), 2, api.OK},
		{full(t, 1, most, 1), pack(2, 0, newSpan), 0, api.ErrLimit},
		{full(t, 1, most, 1), pack(2, 0, old, newExchange), 1, api.OK},
		{full(t, 1, most-1, 1), pack(2, 0, newSpan), 1, api.OK},
		{full(t, 1, most-1, 1), pack(2, 0, newSpan, record(2, 2, 0)), 0, api.ErrLimit},
		{full(t, 1, 1, most), pack(2, 0, newExchange), 0, api.ErrLimit},
		{full(t, 1, 1, most), pack(2, 0, newSpan, known), 1, api.OK},
		{full(t, 1, 1, most-1), pack(2, 0, newExchange), 1, api.OK},
		{full(t, 1, 1, most-1), pack(2, 0, newExchange, exchange(2, 2, 2, 2, 3)), 0, api.ErrLimit},
		{full(t, most, most, most), pack(0, 0, newSpan), 0, api.ErrRange},
		{full(t, most, most, most), pack(2, 0, api.Exchange{}), 0, api.ErrRange},
	} {
		o := fragment.New()
		o.Add(c.f)
		before, merged := c.s.Clone(), c.s.Clone()
		n, e := c.s.Add(c.f)
		expectCount(t, "Add", n, e, c.want, c.e)
		if c.e != api.ErrRange {
			n, e = merged.Merge(o)
			expectCount(t, "Merge", n, e, c.want, c.e)
		}
		if !c.s.Equal(merged) || c.e != api.OK && !c.s.Equal(before) {
			t.Errorf("the set is not what it should be after %v", c.f)
		}
		if c.e != api.OK && (len(c.s.Records()) != len(before.Records()) || len(c.s.Exchanges()) != len(before.Exchanges())) {
			t.Errorf("the records changed after %v", c.f)
		}
	}
}

// P12.3: many records that have the same identity, many fragments in conflict, and repetitions that do not count.
func TestManyConflicts(t *testing.T) {
	const most = api.MaxRecords
	s := fragment.New()
	for end := range most {
		n, e := s.Add(pack(1, 1, record(1, 1, most-end), record(1, 1, most-end)))
		expectCount(t, "Add", n, e, 1, api.OK)
	}
	n, e := s.Add(pack(1, 1, record(1, 1, 0)))
	expectCount(t, "Add", n, e, 0, api.ErrLimit)
	if len(s.Get(1, 1)) != most || len(s.Fragments()) != most || len(s.Records()) != most {
		t.Error("there are not all fragments")
	}
	expectList(t, "Spans", s.Spans(), []api.Span{record(1, 1, most)})
	expectList(t, "Conflicts", s.Conflicts(), []fragment.Id{{Agent: 1, Seq: 1}})
}

// P12.8: neither order, nor repetitions, nor how sets are merged matters; nothing takes a record out.
func TestConsequences(t *testing.T) {
	random := rand.New(rand.NewSource(4))
	for range 200 {
		var l []api.Fragment
		for range 1 + random.Intn(9) {
			l = append(l, somePack(random))
		}
		want := setOf(t, l...)
		again := fragment.New()
		var known []api.Span
		for _, k := range append(random.Perm(len(l)), random.Perm(len(l))...) {
			add(t, again, mixed(random, l[k]))
			now := again.Records()
			expectList(t, "Union", span.Union(known, now), now)
			known = now
		}
		if !again.Equal(want) {
			t.Error("the order matters")
		}
		i, j := random.Intn(len(l)), random.Intn(len(l))
		a, b, c := setOf(t, l[:i]...), setOf(t, l[min(i, j):]...), setOf(t, l[j:]...)
		expectSame(t, "commutative", join(t, a, b), join(t, b, a))
		expectSame(t, "associative", join(t, join(t, a, b), c), join(t, a, join(t, b, c)))
		expectSame(t, "idempotent", join(t, join(t, a, b), b), join(t, a, b))
		filled := a.Clone()
		add(t, filled, b.Without(a)...)
		expectSame(t, "Without", filled, join(t, a, b))
		expectFragments(t, "Without", b.Without(filled), nil)
	}
}

// join returns the union of two sets.
func join(t *testing.T, a, b *fragment.Set) *fragment.Set {
	t.Helper()
	both := a.Clone()
	_, e := both.Merge(b)
	expectErr(t, "Merge", e, api.OK)
	return both
}

func expectSame(t *testing.T, what string, a, b *fragment.Set) {
	t.Helper()
	if !a.Equal(b) {
		t.Errorf("%s: the sets differ", what)
	}
	expectList(t, what, a.Records(), b.Records())
	expectList(t, what, a.Exchanges(), b.Exchanges())
}

// P12.8: an agent whose gaps are empty has lost at most its last fragments.
func TestNothingLost(t *testing.T) {
	random := rand.New(rand.NewSource(5))
	for range 200 {
		sent := random.Intn(9)
		s := fragment.New()
		lost, last := sent, -1
		for seq := range sent {
			if random.Intn(5) > 0 {
				add(t, s, pack(1, seq, record(1, 1+seq, 0)))
				last = seq
			} else if lost == sent {
				lost = seq
			}
		}
		if hasGaps := len(s.Gaps(1)) > 0; hasGaps != (lost < last) {
			t.Errorf("lost %d, last %d: %v", lost, last, s.Gaps(1))
		}
		if want := min(lost, last+1); s.Prefix(1) != want {
			t.Errorf("Prefix: %d, want %d", s.Prefix(1), want)
		}
	}
}

// spoil overwrites fragments and their lists, and what lies behind them.
func spoil(l []api.Fragment) {
	for _, f := range l {
		for k := range f.Spans {
			spoilSpan(&f.Spans[k])
		}
		clear(f.Spans)
		clear(f.Exchanges)
		_ = append(f.Spans, api.Span{Service: "spoilt"})
		_ = append(f.Exchanges, exchange(9, 9, 9, 9, 9))
	}
	clear(l)
}

func spoilSpan(s *api.Span) {
	clear(s.Attrs)
	clear(s.Links)
	*s = api.Span{}
}

// roomy returns fragments whose lists have room behind them, which would show if it were shared.
func roomy() []api.Fragment {
	var l []api.Fragment
	for n := range 3 {
		f := pack(1, n/2)
		f.Spans = make([]api.Span, 0, 6)
		f.Exchanges = append(make([]api.Exchange, 0, 6), exchange(2, 1, n, 0, 0), exchange(1, 2, 0, 0, 0))
		for id := range 3 {
			s := record(1, 3-id, n)
			s.Attrs = append(make([]api.Attr, 0, 4), api.Attr{Key: "a", Value: api.Value{Kind: api.KindInt, Int: n}})
			s.Links = append(make([]api.Ref, 0, 4), api.Ref{Trace: 1, Id: n + 1})
			f.Spans = append(f.Spans, s)
		}
		l = append(l, f)
	}
	return l
}

// Rules: arguments are not modified, and neither they nor results are shared with sets.
func TestIndependent(t *testing.T) {
	l := roomy()
	s := setOf(t, l...)
	if !reflect.DeepEqual(l, roomy()) {
		t.Error("an argument was modified")
	}
	spoil(l)
	want := modelOf(roomy())
	expectSet(t, "Add", s, want)
	for range 2 {
		spoil(s.Fragments())
		spoil(s.Without(nil))
		spoil(s.Without(fragment.New()))
		spoil(s.Get(1, 0))
		for _, l := range [][]api.Span{s.Records(), s.Spans()} {
			for k := range l {
				spoilSpan(&l[k])
			}
		}
		clear(s.Exchanges())
		clear(s.Agents())
		clear(s.Gaps(1))
		clear(s.Conflicts())
		expectSet(t, "after results were overwritten", s, want)
	}
	f := roomy()[0]
	form := fragment.Canonical(f)
	spoil([]api.Fragment{form})
	fragment.Compare(f, roomy()[1])
	if !reflect.DeepEqual(f, roomy()[0]) || !reflect.DeepEqual(f.Spans[:6], roomy()[0].Spans[:6]) || !slices.Equal(f.Exchanges[:6], roomy()[0].Exchanges[:6]) {
		t.Error("an argument of Canonical or Compare was modified, or is shared")
	}
}

// P1, Contract: methods of a nil set.
func TestNil(t *testing.T) {
	var s *fragment.Set
	full := setOf(t, pack(1, 1, record(1, 2, 3)))
	n, e := s.Add(pack(1, 1))
	expectCount(t, "Add", n, e, 0, api.ErrArgument)
	n, e = s.Add(pack(0, 0))
	expectCount(t, "Add", n, e, 0, api.ErrArgument)
	for _, o := range []*fragment.Set{nil, fragment.New(), full} {
		n, e = s.Merge(o)
		expectCount(t, "Merge", n, e, 0, api.ErrArgument)
		expectFragments(t, "Without", s.Without(o), nil)
		if s.Equal(o) != (o == nil) || o.Equal(s) != (o == nil) {
			t.Error("Equal of a nil set")
		}
	}
	expectSet(t, "nil", s, nil)
	if s.Clone() != nil {
		t.Error("Clone of a nil set")
	}
	expectFragments(t, "Without nil", full.Without(s), full.Fragments())
}

// P1: a set that New has not made is an empty one.
func TestZeroSet(t *testing.T) {
	var s, o fragment.Set
	expectSet(t, "the zero value", &s, nil)
	if !s.Equal(fragment.New()) || !s.Equal(&o) || !s.Clone().Equal(&s) {
		t.Error("the zero value is not empty")
	}
	f := pack(1, 0, record(1, 2, 3))
	n, e := s.Add(f)
	expectCount(t, "Add", n, e, 1, api.OK)
	n, e = o.Merge(&s)
	expectCount(t, "Merge", n, e, 1, api.OK)
	c := new(fragment.Set).Clone()
	add(t, c, f)
	for _, s := range []*fragment.Set{&s, &o, c} {
		expectSet(t, "the set", s, modelOf([]api.Fragment{f}))
	}
}
