package span_test

import (
	"fmt"
	"math"
	"math/rand"
	"reflect"
	"slices"
	"testing"

	"sleuth/api"
	"sleuth/span"
)

// P11.2: RefOf and CompareRefs.
func TestRefs(t *testing.T) {
	if r := span.RefOf(ordinary()); r != (api.Ref{Trace: 3<<20 + 5, Id: 7}) {
		t.Errorf("RefOf: %v", r)
	}
	expectIncreasing(t, "CompareRefs", []api.Ref{
		{Trace: math.MinInt, Id: math.MaxInt},
		{Trace: -1, Id: 3},
		{},
		{Trace: 1, Id: math.MinInt},
		{Trace: 1, Id: 2},
		{Trace: 1, Id: 3},
		{Trace: 2, Id: 1},
		{Trace: math.MaxInt, Id: math.MinInt},
	}, span.CompareRefs)
}

// expectIncreasing compares each element of a list with each.
func expectIncreasing[T any](t *testing.T, what string, l []T, compare func(a, b T) int) {
	t.Helper()
	for i, a := range l {
		for j, b := range l {
			want := 0
			if i < j {
				want = -1
			} else if i > j {
				want = 1
			}
			if got := compare(a, b); got != want {
				t.Errorf("%s(%v, %v): %d", what, a, b, got)
			}
		}
	}
}

// choice returns a function that gives a field of a record one of two values, the greater one or not.
func choice[T any](field func(s *api.Span) *T, less, greater T) func(s *api.Span, isGreater bool) {
	return func(s *api.Span, isGreater bool) {
		*field(s) = less
		if isGreater {
			*field(s) = greater
		}
	}
}

// choices returns such functions for all fields, in the order in which these are compared.
func choices() []func(s *api.Span, isGreater bool) {
	return []func(s *api.Span, isGreater bool){
		choice(func(s *api.Span) *int { return &s.Trace }, 2, 10),
		choice(func(s *api.Span) *int { return &s.Id }, math.MinInt, math.MaxInt),
		choice(func(s *api.Span) *int { return &s.Revision }, -1, 0),
		choice(func(s *api.Span) *int { return &s.Parent }, 0, 1),
		choice(func(s *api.Span) *int { return &s.Clock }, math.MinInt, math.MaxInt),
		choice(func(s *api.Span) *int { return &s.Kind }, 1, 2),
		choice(func(s *api.Span) *string { return &s.Service }, "Z", "a"),
		choice(func(s *api.Span) *string { return &s.Version }, "", "\x00"),
		choice(func(s *api.Span) *string { return &s.Operation }, "ab", "b"),
		choice(func(s *api.Span) *int { return &s.Start }, -9, 8),
		choice(func(s *api.Span) *int { return &s.End }, 9, 10),
		choice(func(s *api.Span) *bool { return &s.Error }, false, true),
		choice(func(s *api.Span) *[]api.Attr { return &s.Attrs }, nil, attrs(1)),
		choice(func(s *api.Span) *[]api.Ref { return &s.Links }, links(2), []api.Ref{{Trace: 2}}),
	}
}

// P11.2: of two fields that differ, the one that is compared first decides.
func TestCompare(t *testing.T) {
	expect := func(a, b api.Span, want int) {
		t.Helper()
		if got := span.Compare(a, b); got != want {
			t.Errorf("Compare(%v, %v): %d", a, b, got)
		}
		if isEqual := want == 0; span.Equal(a, b) != isEqual {
			t.Errorf("Equal(%v, %v) is not %v", a, b, isEqual)
		}
	}
	for k, first := range choices() {
		for _, second := range choices()[k:] {
			a, b := ordinary(), ordinary()
			second(&a, true)
			second(&b, false)
			first(&a, false)
			first(&b, true)
			expect(a, b, -1)
			expect(b, a, 1)
			expect(a, a, 0)
		}
	}
}

// P11.2: lists are compared by their first difference; a list comes before longer ones that begin with it.
func TestCompareLists(t *testing.T) {
	var byLinks []api.Span
	for _, l := range [][]api.Ref{
		nil,
		{{Trace: 1, Id: 1}},
		{{Trace: 1, Id: 1}, {Trace: 0, Id: 0}},
		{{Trace: 1, Id: 1}, {Trace: 1, Id: 2}},
		{{Trace: 1, Id: 2}},
		{{Trace: 1, Id: 2}, {Trace: 1, Id: 1}, {}},
		{{Trace: 2, Id: 1}},
	} {
		byLinks = append(byLinks, api.Span{Links: l})
	}
	expectIncreasing(t, "Compare of links", byLinks, span.Compare)
	var byAttrs []api.Span
	for _, l := range [][]api.Attr{
		nil,
		{{Key: "a", Value: text("b")}},
		{{Key: "a", Value: text("b")}, {Key: "", Value: text("")}},
		{{Key: "a", Value: text("b")}, {Key: "b", Value: text("")}},
		{{Key: "a", Value: text("c")}},
		{{Key: "a", Value: number(-5)}, {}},
		{{Key: "a", Value: truth(0)}},
		{{Key: "b", Value: text("")}},
	} {
		byAttrs = append(byAttrs, api.Span{Attrs: l, Links: []api.Ref{{Trace: 9 - len(byAttrs), Id: 1}}})
	}
	expectIncreasing(t, "Compare of attributes", byAttrs, span.Compare)
}

// P11.2: Equal, with nil and empty lists.
func TestEqual(t *testing.T) {
	empty := with(func(s *api.Span) { s.Attrs, s.Links = []api.Attr{}, []api.Ref{} })
	missing := with(func(s *api.Span) { s.Attrs, s.Links = nil, nil })
	if !span.Equal(empty, missing) || !span.Equal(missing, empty) || span.Compare(empty, missing) != 0 {
		t.Error("nil and empty lists differ")
	}
	if !span.Equal(ordinary(), ordinary()) || !span.Equal(api.Span{}, api.Span{}) {
		t.Error("equal records differ")
	}
}

// isGreater reports whether a record comes behind another one.
func isGreater(a, b api.Span) bool { return span.Compare(a, b) > 0 }

// sorted returns the different records of a list in order, found by looking for the least one that is left.
func sorted(l []api.Span) []api.Span {
	var set []api.Span
	for {
		var least *api.Span
		for k, s := range l {
			isBehind := len(set) == 0 || isGreater(s, set[len(set)-1])
			if isBehind && (least == nil || isGreater(*least, s)) {
				least = &l[k]
			}
		}
		if least == nil {
			return set
		}
		set = append(set, *least)
	}
}

// best returns the greatest record with an identity.
func best(l []api.Span, r api.Ref) (api.Span, bool) {
	var greatest *api.Span
	for k, s := range l {
		if s.Trace == r.Trace && s.Id == r.Id && (greatest == nil || isGreater(s, *greatest)) {
			greatest = &l[k]
		}
	}
	if greatest == nil {
		return api.Span{}, false
	}
	return *greatest, true
}

// P11.3 and P11.4: lists that are empty, and the second example of the document.
func TestSets(t *testing.T) {
	for _, l := range [][]api.Span{nil, {}} {
		for what, got := range map[string][]api.Span{
			"Set": span.Set(l), "Union": span.Union(l, nil), "Winners": span.Winners(l), "Of": span.Of(l, 1),
		} {
			expectSpans(t, what+" of nothing", got, nil)
		}
		if w, isFound := span.Winner(l, api.Ref{}); isFound || !reflect.DeepEqual(w, api.Span{}) {
			t.Errorf("Winner of nothing: %v", w)
		}
		if traces := span.Traces(l); len(traces) != 0 {
			t.Errorf("Traces of nothing: %v", traces)
		}
	}
	late, early, child := record(1, 2, 1, 0, 9), record(1, 2, 0, 0, 12), record(1, 2, 1, 1, 5)
	ref := api.Ref{Trace: 1, Id: 2}
	w, isFound := span.Winner([]api.Span{late, early}, ref)
	expectSpans(t, "Winner", []api.Span{w}, []api.Span{late})
	if !isFound {
		t.Error("no winner")
	}
	w, _ = span.Winner([]api.Span{late, child, early}, ref)
	expectSpans(t, "Winner", []api.Span{w}, []api.Span{child})

	other, second := record(1, 1, 5, 0, 1), record(2, 1, 0, 0, 1)
	all := []api.Span{second, late, other, early, late, child}
	expectSpans(t, "Set", span.Set(all), []api.Span{other, early, late, child, second})
	expectSpans(t, "Union", span.Union(all[:3], all[2:]), []api.Span{other, early, late, child, second})
	expectSpans(t, "Union", span.Union(nil, all), []api.Span{other, early, late, child, second})
	expectSpans(t, "Winners", span.Winners(all), []api.Span{other, child, second})
	expectSpans(t, "Of", span.Of(all, 1), []api.Span{other, child})
	expectSpans(t, "Of", span.Of(all, 2), []api.Span{second})
	expectSpans(t, "Of", span.Of(all, 3), nil)
	if traces := span.Traces(all); !slices.Equal(traces, []int{1, 2}) {
		t.Errorf("Traces: %v", traces)
	}
	for _, r := range []api.Ref{{Trace: 2, Id: 2}, {Trace: 3, Id: 1}, {Trace: 1, Id: 3}, {}} {
		if w, isFound := span.Winner(all, r); isFound || !reflect.DeepEqual(w, api.Span{}) {
			t.Errorf("Winner of %v: %v", r, w)
		}
	}
}

// P11.3 and P11.4: the definitions, for lists of random records.
func TestSetsOfMany(t *testing.T) {
	random := rand.New(rand.NewSource(2))
	for range 600 {
		a, b := someRecords(random), someRecords(random)
		both := slices.Concat(a, b)
		expectSpans(t, "Set", span.Set(a), sorted(a))
		expectSpans(t, "Union", span.Union(a, b), sorted(both))
		var winners, traces = []api.Span{}, []int{}
		for trace := range 5 {
			var of []api.Span
			for id := range 5 {
				r := api.Ref{Trace: trace, Id: id}
				want, wantFound := best(both, r)
				got, isFound := span.Winner(both, r)
				expectSpans(t, fmt.Sprint("Winner of ", r), []api.Span{got}, []api.Span{want})
				if isFound != wantFound {
					t.Errorf("Winner(%v, %v): %v", both, r, isFound)
				}
				if wantFound {
					of = append(of, want)
				}
			}
			expectSpans(t, "Of", span.Of(both, trace), of)
			if winners = append(winners, of...); len(of) > 0 {
				traces = append(traces, trace)
			}
		}
		expectSpans(t, "Winners", span.Winners(both), winners)
		if got := span.Traces(both); !slices.Equal(got, traces) {
			t.Errorf("Traces(%v): %v", both, got)
		}
	}
}

// P11.11: Compare is a total order.
func TestTotalOrder(t *testing.T) {
	random := rand.New(rand.NewSource(3))
	for range 3000 {
		l := someRecords(random)
		if len(l) < 3 {
			continue
		}
		a, b, c := l[0], l[1], l[2]
		if span.Compare(a, b) != -span.Compare(b, a) || span.Compare(a, a) != 0 {
			t.Errorf("Compare(%v, %v) is not the opposite", a, b)
		}
		if (span.Compare(a, b) == 0) != reflect.DeepEqual(plain(a), plain(b)) {
			t.Errorf("Compare(%v, %v) is %d", a, b, span.Compare(a, b))
		}
		if span.Compare(a, b) <= 0 && span.Compare(b, c) <= 0 && span.Compare(a, c) > 0 {
			t.Errorf("%v, %v and %v have no order", a, b, c)
		}
	}
}

// P11.11: neither order nor repetitions matter, and winners of a union are those of the winners.
func TestConsequences(t *testing.T) {
	random := rand.New(rand.NewSource(4))
	for range 400 {
		a, b := someRecords(random), someRecords(random)
		mixed := shuffled(random, a)
		if !reflect.DeepEqual(span.Set(a), span.Set(mixed)) || !reflect.DeepEqual(span.Winners(a), span.Winners(mixed)) || !slices.Equal(span.Traces(a), span.Traces(mixed)) {
			t.Errorf("%v and %v differ", a, mixed)
		}
		expectSpans(t, "Winners", span.Winners(span.Union(a, b)), span.Winners(slices.Concat(span.Winners(a), span.Winners(b))))
		expectSpans(t, "Union", span.Union(a, b), span.Union(b, a))
		winners := span.Winners(a)
		for _, w := range span.Winners(slices.Concat(a, b)) {
			isOld := slices.ContainsFunc(a, func(s api.Span) bool { return span.Equal(s, w) })
			if isOld && !slices.ContainsFunc(winners, func(s api.Span) bool { return span.Equal(s, w) }) {
				t.Errorf("%v is a winner of a list, but of no part", w)
			}
		}
	}
}

// P11.11: records of which some have nil and others empty lists have the same set in any order.
func TestSetWithEmptyLists(t *testing.T) {
	empty := with(func(s *api.Span) { s.Attrs, s.Links = []api.Attr{}, []api.Ref{} })
	missing := with(func(s *api.Span) { s.Attrs, s.Links = nil, nil })
	for _, f := range []func(l []api.Span) []api.Span{span.Set, span.Winners} {
		one, other := f([]api.Span{empty, missing}), f([]api.Span{missing, empty})
		if len(one) != 1 || !reflect.DeepEqual(one, other) {
			t.Errorf("%v and %v differ", one, other)
		}
	}
}

// spoil overwrites records and their lists, and what lies behind them.
func spoil(l []api.Span) {
	for k := range l {
		clear(l[k].Attrs)
		clear(l[k].Links)
		_ = append(l[k].Attrs, api.Attr{Key: "spoilt"})
		_ = append(l[k].Links, api.Ref{Trace: 99})
	}
	clear(l)
	_ = append(l, api.Span{Service: "spoilt"})
}

// given returns records whose lists have room behind them, which would show if it were shared.
func given() []api.Span {
	l := make([]api.Span, 0, 8)
	for id := range 4 {
		s := ordinary()
		s.Id = 4 - id/2
		s.Revision = id % 2
		s.Attrs = append(make([]api.Attr, 0, 5), s.Attrs...)
		s.Links = append(make([]api.Ref, 0, 5), s.Links...)
		l = append(l, s)
	}
	return l
}

// whole returns a list of records with what lies behind it and its lists.
func whole(l []api.Span) []api.Span {
	all := slices.Clone(l[:cap(l)])
	for k := range l {
		all[k].Attrs = slices.Clone(l[k].Attrs[:cap(l[k].Attrs)])
		all[k].Links = slices.Clone(l[k].Links[:cap(l[k].Links)])
	}
	return all
}

// Rules: arguments are not modified, and results share nothing with them.
func TestIndependent(t *testing.T) {
	trace := ordinary().Trace
	for what, make := range map[string]func(l []api.Span) []api.Span{
		"Set":     span.Set,
		"Union":   func(l []api.Span) []api.Span { return span.Union(l, l[1:]) },
		"Winners": span.Winners,
		"Winner": func(l []api.Span) []api.Span {
			w, _ := span.Winner(l, span.RefOf(l[0]))
			return []api.Span{w}
		},
		"Of":     func(l []api.Span) []api.Span { return span.Of(l, trace) },
		"Filter": func(l []api.Span) []api.Span { return span.Filter(api.Pred{}, l) },
	} {
		l := given()
		made := make(l)
		if len(made) == 0 {
			t.Errorf("%s: nothing", what)
		}
		spoil(made)
		if !reflect.DeepEqual(whole(l), whole(given())) {
			t.Errorf("%s: the argument was modified, or is shared", what)
		}
		made = make(l)
		before := whole(made)
		spoil(l)
		if !reflect.DeepEqual(whole(made), before) {
			t.Errorf("%s: the result was modified", what)
		}
	}
}

// P1: records that are not valid do no harm, and have an order, too.
func TestGarbage(t *testing.T) {
	strange := []api.Span{
		{},
		{Trace: math.MinInt, Id: math.MaxInt, Kind: -7, Start: math.MaxInt, End: math.MinInt},
		{Trace: math.MaxInt, Service: "\xff\x00", Attrs: make([]api.Attr, 100), Links: make([]api.Ref, 100)},
		{Trace: -1, Id: -1, Parent: -1, Attrs: []api.Attr{{Key: "b"}, {Key: "a"}}},
		{Trace: -1, Id: -1, Parent: -2, Version: x(1000)},
	}
	mixed := slices.Concat(strange, strange)
	expectSpans(t, "Set", span.Set(mixed), sorted(mixed))
	expectSpans(t, "Of", span.Of(mixed, -1), []api.Span{strange[3]})
	expectInt(t, "Winners", len(span.Winners(mixed)), 4)
	if traces := span.Traces(mixed); !slices.Equal(traces, []int{math.MinInt, -1, 0, math.MaxInt}) {
		t.Errorf("Traces: %v", traces)
	}
	for _, s := range strange {
		expectErr(t, "Check", span.Check(s), api.ErrRange)
		span.Duration(s)
		for _, p := range []api.Pred{{}, {Op: -1}, {Op: api.PredNot}, {Op: api.PredEqual, Field: "slot"}, {Op: api.PredLess, Field: "kind", Key: "a"}, {Op: api.PredHas, Key: "b"}} {
			span.Holds(p, s)
			span.Filter(p, strange)
		}
		for _, field := range append(span.Fields(), "attr", "", "nothing") {
			for _, key := range []string{"", "a", "b"} {
				span.View{Span: s}.Value(field, key)
			}
		}
	}
}
