package certain_test

import (
	"math"
	"reflect"
	"slices"
	"testing"

	"sleuth/api"
	"sleuth/certain"
	"sleuth/skew"
)

// plain returns a fact with nil for empty lists.
func plain(f api.Fact) api.Fact {
	if len(f.Path) == 0 {
		f.Path = nil
	}
	if len(f.Proof.Chain) == 0 {
		f.Proof.Chain = nil
	}
	if len(f.Proof.Decisions) == 0 {
		f.Proof.Decisions = nil
	}
	return f
}

func expectFacts(t *testing.T, what string, got []api.Fact, f api.Errno, want []api.Fact, wantErr api.Errno) {
	t.Helper()
	isEqual := func(a, b api.Fact) bool { return reflect.DeepEqual(plain(a), plain(b)) }
	if !slices.EqualFunc(got, want, isEqual) || f != wantErr {
		t.Errorf("%s: %v, %d; want %v, %d", what, got, f, want, wantErr)
	}
}

// decision returns the fact that b was at least so much after a.
func decision(a, b api.Event, low int, chain ...api.Message) api.Fact {
	return api.Fact{Kind: api.FactOrder, A: a, B: b, Low: low, Proof: api.Proof{Chain: chain}}
}

// P18.6: the decisions of the document's first example, and its path as a fact.
func TestFacts(t *testing.T) {
	ahead, back := bound(1, 2, 205), bound(2, 1, -190)
	e, l := evidenceOf(t, []api.Message{back, ahead}), family()
	want := []api.Fact{decision(start(2), end(1), 80, back), decision(start(1), end(2), 35, ahead), decision(end(2), end(1), 50, back), decision(start(1), start(2), 5, ahead)}
	decisions, f := certain.Decisions(e, l, 1)
	expectFacts(t, "Decisions", decisions, f, want, api.OK)
	path, _ := certain.Path(e, l, 1)
	fact, f := certain.Fact(e, l, 1)
	expectFacts(t, "Fact", []api.Fact{fact}, f, []api.Fact{{Kind: api.FactPath, A: start(1), Path: path, Proof: api.Proof{Decisions: want}}}, api.OK)
	fact, f = certain.Fact(e, l, 2)
	expectFacts(t, "Fact of the child", []api.Fact{fact}, f, []api.Fact{{Kind: api.FactPath, A: start(2), Path: []api.Segment{segment(2, start(2), end(2))}}}, api.OK)
}

// P18.6: what is certainly not before something is decided the other way round, with at least 0 in between.
func TestNegativeDecisions(t *testing.T) {
	ahead, back := bound(1, 2, 0), bound(2, 1, 3)
	e := evidenceOf(t, []api.Message{ahead, back})
	// The child begins at the end of its parent, or later.
	l := []api.Span{record(1, 0, 1, 0, 10), record(2, 1, 2, 10, 20)}
	decisions, f := certain.Decisions(e, l, 1)
	expectFacts(t, "Decisions", decisions, f, []api.Fact{decision(end(1), start(2), 0, ahead)}, api.OK)
	// It ends certainly before its parent began.
	l = []api.Span{record(1, 0, 1, 10, 20), record(2, 1, 2, 0, 6)}
	decisions, f = certain.Decisions(e, l, 1)
	expectFacts(t, "Decisions", decisions, f, []api.Fact{decision(start(2), end(1), 17, back), decision(end(2), start(1), 1, back)}, api.OK)
}

// P18.6: facts that two answers share are there once.
func TestEqualDecisions(t *testing.T) {
	exactly := []api.Message{bound(1, 2, 0), bound(2, 1, 0)}
	// The walk asks whether 3 ends before 2, and, in 2, whether 2 ends before 3 does.
	l := []api.Span{record(1, 0, 1, 0, 100), record(2, 1, 2, 10, 50), record(3, 1, 1, 20, 60), record(4, 1, 2, 5, 30)}
	e := evidenceOf(t, exactly)
	answers, _ := certain.Answers(e, l, 1)
	decisions, f := certain.Decisions(e, l, 1)
	expectErr(t, "Decisions", f, api.OK)
	pairs := map[[2]api.Event]int{}
	for _, a := range answers {
		x, y := a.X, a.Y
		if !a.Earlier {
			x, y = y, x
		}
		if l[x.Span.Id-1].Clock != l[y.Span.Id-1].Clock {
			pairs[[2]api.Event{x, y}]++
		}
	}
	repeated := 0
	for _, n := range pairs {
		repeated += n - 1
	}
	if repeated == 0 {
		t.Error("no fact belongs to two answers")
	}
	if len(decisions) != len(pairs) {
		t.Errorf("Decisions: %d facts, want %d", len(decisions), len(pairs))
	}
}

// P1: lists that are no traces.
func TestStrangeLists(t *testing.T) {
	zero, other := record(0, 0, 1, 0, 9), record(2, 1, 1, 1, 8)
	other.Trace = 2
	low := api.Span{Trace: math.MinInt, Id: math.MinInt, Parent: math.MinInt, Clock: math.MinInt, Kind: -1, Start: math.MaxInt, End: math.MinInt}
	e := evidenceOf(t, bounds(1, 2, 5, 2, 1, -5))
	for _, l := range [][]api.Span{
		{zero},
		{zero, record(1, 0, 1, 0, 9)},
		{record(1, 0, 1, 0, 9), record(2, 1, 1, 1, 8), record(2, 1, 2, 1, 8)},
		{record(1, 0, 1, 0, 9), other, record(2, 1, 1, 1, 8), record(3, 2, 2, 2, 7)},
		{record(1, 0, 1, 0, 9), record(1, 2, 1, 0, 9), record(2, 1, 1, 0, 9)},
		{low, {}, zero},
		{record(1, 0, 1, 9, 0), record(2, 1, 2, 8, 1)},
	} {
		for _, root := range []int{math.MinInt, 0, 1, 2, 3} {
			path, _ := certain.Path(e, l, root)
			certain.Lengths(e, l, path)
			certain.Answers(e, l, root)
			certain.Undecided(e, l, root)
			certain.Totals(e, l, root)
			certain.Decisions(e, l, root)
			certain.Fact(e, l, root)
			certain.Fact(&skew.Evidence{}, l, root)
		}
	}
}

// Rules: arguments are not modified, and results are new.
func TestIndependent(t *testing.T) {
	e := evidenceOf(t, bounds(1, 2, 205, 2, 1, -190))
	l := family()
	fact, _ := certain.Fact(e, l, 1)
	want, _ := certain.Fact(e, l, 1)
	spoil := func(facts []api.Fact) {
		for k := range facts {
			for i := range facts[k].Proof.Chain {
				facts[k].Proof.Chain[i] = api.Message{}
			}
		}
	}
	for k := range fact.Proof.Decisions {
		before := plain(fact.Proof.Decisions[(k+1)%4])
		chain := slices.Clone(before.Proof.Chain)
		spoil(fact.Proof.Decisions[k : k+1])
		if !slices.Equal(fact.Proof.Decisions[(k+1)%4].Proof.Chain, chain) {
			t.Error("two facts share a chain")
		}
	}
	for k := range fact.Path {
		fact.Path[k] = api.Segment{}
	}
	again, f := certain.Fact(e, l, 1)
	expectFacts(t, "Fact", []api.Fact{again}, f, []api.Fact{want}, api.OK)
	if !reflect.DeepEqual(l, family()) {
		t.Error("an argument was modified")
	}
	given := slices.Clone(want.Path)
	certain.Lengths(e, l, want.Path)
	if !slices.Equal(given, want.Path) {
		t.Error("an argument was modified")
	}
}
