package assembly_test

import (
	"fmt"
	"math/rand"
	"reflect"
	"slices"
	"testing"

	"sleuth/api"
	"sleuth/assembly"
	"sleuth/span"
)

// add adds records, and returns the traces that have changed.
func add(t *testing.T, x *assembly.Assembler, l ...api.Span) []int {
	t.Helper()
	changed, e := x.Add(l)
	expectErr(t, "Add", e, api.OK)
	return changed
}

// assemblerOf returns the assembler of some records.
func assemblerOf(t *testing.T, l ...api.Span) *assembly.Assembler {
	t.Helper()
	x := assembly.New()
	add(t, x, l...)
	return x
}

func expectSpans(t *testing.T, what string, got, want []api.Span) {
	t.Helper()
	if !slices.EqualFunc(got, want, span.Equal) {
		t.Errorf("%s: %v, want %v", what, got, want)
	}
}

// expectRecords compares all that an assembler says with the records that were added. Their traces are from 1 to 3.
func expectRecords(t *testing.T, what string, x *assembly.Assembler, l []api.Span) {
	t.Helper()
	expectSpans(t, what+": Records", x.Records(), span.Set(l))
	var traces []int
	var data []api.Trace
	for trace := range 5 {
		spans := span.Of(l, trace)
		expectSpans(t, what+": Spans", x.Spans(trace), spans)
		tree, e := x.Tree(trace)
		if len(spans) == 0 {
			expectErr(t, what+": Tree", e, api.ErrNotFound)
			expectTree(t, what+": Tree", tree, assembly.Tree{})
			continue
		}
		expectErr(t, what+": Tree", e, api.OK)
		expectTree(t, what+": Tree", tree, assembly.Build(l, trace))
		traces = append(traces, trace)
		data = append(data, api.Trace{Id: trace, Weight: 1, Spans: spans})
	}
	expectInts(t, what+": Traces", x.Traces(), traces...)
	isSame := func(a, b api.Trace) bool {
		return a.Id == b.Id && a.Weight == b.Weight && slices.EqualFunc(a.Spans, b.Spans, span.Equal)
	}
	if got := x.Data(); !slices.EqualFunc(got, data, isSame) {
		t.Errorf("%s: Data: %v, want %v", what, got, data)
	}
}

// P13.4 and P13.5: spans that arrive one after another, as in the second example of the document.
func TestArrival(t *testing.T) {
	x := assembly.New()
	expectRecords(t, "an empty assembler", x, nil)
	expectInts(t, "Add", add(t, x, family(1, 0, 2, 1, 3, 9, 4, 5, 5, 4)...), 1)
	tree, e := x.Tree(1)
	expectErr(t, "Tree", e, api.OK)
	expectInts(t, "Missing", tree.Missing, 9)
	expectInts(t, "Add", add(t, x, record(1, 9, 2, 0)), 1)
	tree, _ = x.Tree(1)
	expectInts(t, "Missing", tree.Missing)
	expectInts(t, "Ancestors", tree.Ancestors(3), 9, 2, 1)
	n, _ := tree.Node(3)
	expectInts(t, "depth", []int{n.Depth}, 3)
	common, _ := tree.Common(3, 2)
	expectInts(t, "Common", []int{common}, 2)
}

// P13.4: which traces have changed: those with a new span or a new winner.
func TestChanged(t *testing.T) {
	x := assembly.New()
	expectInts(t, "nothing", add(t, x))
	expectInts(t, "new spans", add(t, x, record(3, 1, 0, 0), record(1, 2, 0, 1), record(3, 2, 1, 0), record(1, 1, 0, 1)), 1, 3)
	expectInts(t, "the same", add(t, x, record(1, 2, 0, 1), record(3, 1, 0, 0)))
	expectInts(t, "an earlier revision", add(t, x, record(1, 2, 5, 0)))
	expectInts(t, "the same earlier revision", add(t, x, record(1, 2, 5, 0)))
	expectInts(t, "a revision between them", add(t, x, record(1, 2, 6, 0)))
	expectInts(t, "a later revision", add(t, x, record(1, 2, 0, 2), record(2, 9, 0, 0)), 1, 2)
	expectInts(t, "a winner of the same revision", add(t, x, record(1, 2, 1, 2)), 1)
	expectInts(t, "a loser and a winner", add(t, x, record(3, 1, 0, 1), record(1, 2, 0, 1)), 3)
	expectInts(t, "several revisions at once", add(t, x, record(2, 9, 0, 2), record(2, 9, 0, 3), record(2, 9, 0, 1)), 2)
	expectRecords(t, "Add", x, []api.Span{
		record(1, 1, 0, 1), record(1, 2, 5, 0), record(1, 2, 6, 0), record(1, 2, 0, 1), record(1, 2, 0, 2), record(1, 2, 1, 2),
		record(2, 9, 0, 0), record(2, 9, 0, 1), record(2, 9, 0, 2), record(2, 9, 0, 3), record(3, 1, 0, 0), record(3, 1, 0, 1), record(3, 2, 1, 0),
	})
}

// P13.4: records that are not valid. The first of them decides, and nothing is added.
func TestAddErrors(t *testing.T) {
	good, badKind, badName, badTime := record(1, 2, 0, 5), record(1, 2, 0, 5), record(1, 2, 0, 5), record(1, 2, 0, 5)
	badKind.Kind, badName.Service, badTime.End = 6, "", -1
	badLink := record(1, 2, 0, 5)
	badLink.Links = []api.Ref{{Trace: 1}}
	first := []api.Span{record(1, 2, 0, 1), record(2, 1, 0, 0)}
	x := assemblerOf(t, first...)
	for _, c := range []struct {
		l []api.Span
		e api.Errno
	}{
		{[]api.Span{badKind}, api.ErrKind},
		{[]api.Span{good, badName, badKind}, api.ErrName},
		{[]api.Span{good, badTime, badName, {}}, api.ErrOrder},
		{[]api.Span{good, record(3, 1, 0, 0), badLink}, api.ErrRange},
		{[]api.Span{{}, badKind}, api.ErrRange},
	} {
		changed, e := x.Add(c.l)
		expectErr(t, "Add", e, c.e)
		expectInts(t, "Add", changed)
		expectRecords(t, "after an error", x, first)
	}
}

// P13.4 and P13.5: random records, in several lists, and assemblers that are merged.
func TestAssemblersOfMany(t *testing.T) {
	random := rand.New(rand.NewSource(6))
	for range 400 {
		var assemblers [2]*assembly.Assembler
		var records [2][]api.Span
		for k := range assemblers {
			assemblers[k] = assembly.New()
			for range random.Intn(4) {
				l := someRecords(random)
				before := records[k]
				records[k] = slices.Concat(before, l)
				expectInts(t, "Add", add(t, assemblers[k], l...), changes(before, records[k])...)
				expectRecords(t, "Add", assemblers[k], records[k])
			}
		}
		both := slices.Concat(records[0], records[1])
		merged := assemblers[0].Clone()
		changed, e := merged.Merge(assemblers[1])
		expectErr(t, "Merge", e, api.OK)
		expectInts(t, "Merge", changed, changes(records[0], both)...)
		expectRecords(t, "Merge", merged, both)
		for k := range assemblers {
			expectRecords(t, "after Merge", assemblers[k], records[k])
		}
		isEqual := slices.EqualFunc(span.Set(records[0]), span.Set(records[1]), span.Equal)
		expectBool(t, "Equal", assemblers[0].Equal(assemblers[1]), isEqual)
		expectBool(t, "Equal", assemblers[1].Equal(assemblers[0]), isEqual)
	}
}

// changes returns the traces whose winners differ.
func changes(before, after []api.Span) []int {
	var traces []int
	for trace := range 5 {
		if !slices.EqualFunc(span.Of(before, trace), span.Of(after, trace), span.Equal) {
			traces = append(traces, trace)
		}
	}
	return traces
}

// P13.6: neither order, nor lists, nor repetitions matter, nor in which order two assemblers are merged.
func TestConsequences(t *testing.T) {
	random := rand.New(rand.NewSource(7))
	for range 300 {
		l := someRecords(random)
		want := assemblerOf(t, l...)
		again := assembly.New()
		mixed := shuffled(random, l)
		for len(mixed) > 0 {
			size := 1 + random.Intn(len(mixed))
			add(t, again, mixed[:size]...)
			mixed = mixed[size:]
		}
		expectBool(t, "the order does not matter", again.Equal(want), true)
		expectRecords(t, "another order", again, l)
		other := assemblerOf(t, someRecords(random)...)
		one, two := want.Clone(), other.Clone()
		one.Merge(other)
		two.Merge(want)
		expectBool(t, "merging in both orders", one.Equal(two) && two.Equal(one), true)
		expectRecords(t, "merging in both orders", one, two.Records())
		changed, e := one.Merge(two)
		expectErr(t, "Merge", e, api.OK)
		expectInts(t, "Merge of what is there", changed)
	}
}

// P13.4: what was merged into an assembler is independent of the other one; merging with itself changes nothing.
func TestMerge(t *testing.T) {
	first, second := record(1, 2, 0, 1), record(1, 2, 0, 2)
	for _, l := range [][]api.Span{nil, {record(1, 2, 0, 0)}, {record(3, 3, 0, 0)}} {
		x, o := assemblerOf(t, l...), assemblerOf(t, first)
		changed, e := x.Merge(o)
		expectErr(t, "Merge", e, api.OK)
		expectInts(t, "Merge", changed, 1)
		add(t, o, second)
		expectRecords(t, "the assembler", x, append(slices.Clone(l), first))
		add(t, x, record(1, 1, 0, 0))
		expectRecords(t, "the other one", o, []api.Span{first, second})
	}
	x := assemblerOf(t, first, second)
	changed, e := x.Merge(x)
	expectErr(t, "Merge with itself", e, api.OK)
	expectInts(t, "Merge with itself", changed)
	changed, e = x.Merge(assembly.New())
	expectErr(t, "Merge of an empty one", e, api.OK)
	expectInts(t, "Merge of an empty one", changed)
	changed, e = x.Merge(nil)
	expectErr(t, "Merge of nil", e, api.ErrArgument)
	expectInts(t, "Merge of nil", changed)
	expectRecords(t, "Merge", x, []api.Span{first, second})
}

// P13.5: Equal compares all records, not only the winners.
func TestEqualAssemblers(t *testing.T) {
	failed := record(1, 2, 0, 1)
	failed.Error = true
	different := []*assembly.Assembler{
		nil,
		assembly.New(),
		assemblerOf(t, record(1, 2, 0, 1)),
		assemblerOf(t, failed),
		assemblerOf(t, record(1, 2, 0, 1), record(1, 2, 0, 0)),
		assemblerOf(t, record(1, 2, 0, 1), record(1, 2, 3, 0)),
		assemblerOf(t, record(1, 2, 0, 1), record(1, 3, 0, 0)),
		assemblerOf(t, record(2, 2, 0, 1)),
		assemblerOf(t, record(2, 2, 0, 1), record(1, 2, 0, 1)),
	}
	for i, x := range different {
		for j, o := range different {
			expectBool(t, fmt.Sprintf("Equal of %d and %d", i, j), x.Equal(o), i == j)
		}
		c := x.Clone()
		expectBool(t, fmt.Sprint("Clone of ", i), c.Equal(x) && x.Equal(c) && (c == x) == (x == nil), true)
	}
}

// P13.5: what is added to an assembler is not in its copy, and conversely.
func TestClone(t *testing.T) {
	first := []api.Span{record(1, 2, 0, 1), record(1, 3, 2, 0), record(2, 1, 0, 0)}
	for _, more := range []api.Span{record(1, 2, 0, 0), record(1, 2, 0, 2), record(1, 1, 0, 0), record(3, 1, 0, 0)} {
		x := assemblerOf(t, first...)
		c := x.Clone()
		add(t, x, more)
		expectRecords(t, "the copy", c, first)
		c = x.Clone()
		add(t, c, record(1, 2, 0, 7), record(1, 9, 0, 0), record(3, 9, 0, 0))
		expectRecords(t, "the assembler", x, append(slices.Clone(first), more))
	}
	empty := assembly.New()
	c := empty.Clone()
	add(t, c, first...)
	expectRecords(t, "the empty assembler", empty, nil)
	expectRecords(t, "its copy", c, first)
}

// P13.4: many revisions of one span.
func TestManyRevisions(t *testing.T) {
	x := assembly.New()
	const size = 3000
	for n := range size {
		changed := add(t, x, record(1, 1, 0, size-n))
		expectBool(t, "changed", len(changed) == 1, n == 0)
	}
	expectInts(t, "records", []int{len(x.Records()), len(x.Spans(1)), x.Spans(1)[0].Revision}, size, 1, size)
}

// spoil overwrites records and their lists, and what lies behind them.
func spoil(l []api.Span) {
	for k := range l {
		clear(l[k].Attrs)
		clear(l[k].Links)
		_ = append(l[k].Attrs, api.Attr{Key: "spoilt"})
		_ = append(l[k].Links, api.Ref{Trace: 99})
	}
	clear(l)
	_ = append(l, api.Span{Service: "spoilt"})
}

// roomy returns records whose lists have room behind them, which would show if it were shared.
func roomy() []api.Span {
	l := make([]api.Span, 0, 8)
	for n := range 6 {
		s := record(1+n/4, 1+n/2, 0, n%2)
		s.Attrs = append(make([]api.Attr, 0, 4), api.Attr{Key: "a", Value: api.Value{Kind: api.KindInt, Int: n}})
		s.Links = append(make([]api.Ref, 0, 4), api.Ref{Trace: 1, Id: n + 1})
		l = append(l, s)
	}
	return l
}

// Rules: arguments are not modified, and neither they nor results are shared with assemblers.
func TestAssemblersIndependent(t *testing.T) {
	l := roomy()
	x := assemblerOf(t, l...)
	if !reflect.DeepEqual(l[:cap(l)], roomy()[:cap(l)]) {
		t.Error("an argument was modified")
	}
	merged := assembly.New()
	merged.Merge(x)
	clone := x.Clone()
	spoil(l)
	for _, x := range []*assembly.Assembler{x, merged, clone} {
		for range 2 {
			spoil(x.Records())
			spoil(x.Spans(1))
			for _, trace := range x.Data() {
				spoil(trace.Spans)
			}
			overwrite(x.Traces())
			tree, _ := x.Tree(1)
			clear(tree.Nodes)
			overwrite(tree.Roots)
		}
	}
	for _, x := range []*assembly.Assembler{x, merged, clone} {
		expectRecords(t, "after results were overwritten", x, roomy())
	}
}

// P1, Contract: methods of a nil assembler.
func TestNil(t *testing.T) {
	var x *assembly.Assembler
	for _, l := range [][]api.Span{nil, {{}}, family(1, 0)} {
		changed, e := x.Add(l)
		expectErr(t, "Add", e, api.ErrArgument)
		expectInts(t, "Add", changed)
	}
	for _, o := range []*assembly.Assembler{nil, assembly.New(), assemblerOf(t, record(1, 2, 0, 0))} {
		changed, e := x.Merge(o)
		expectErr(t, "Merge", e, api.ErrArgument)
		expectInts(t, "Merge", changed)
		expectBool(t, "Equal", x.Equal(o), o == nil)
		expectBool(t, "Equal", o.Equal(x), o == nil)
	}
	tree, e := x.Tree(1)
	expectErr(t, "Tree", e, api.ErrArgument)
	expectTree(t, "Tree", tree, assembly.Tree{})
	if len(x.Traces())+len(x.Spans(1))+len(x.Records())+len(x.Data()) > 0 || x.Clone() != nil {
		t.Error("a nil assembler has something")
	}
}

// P1: an assembler that New has not made is an empty one.
func TestZeroAssembler(t *testing.T) {
	var x, o assembly.Assembler
	expectRecords(t, "the zero value", &x, nil)
	expectBool(t, "Equal", x.Equal(assembly.New()) && x.Equal(&o) && x.Clone().Equal(&x), true)
	s := record(1, 2, 0, 3)
	expectInts(t, "Add", add(t, &x, s), 1)
	changed, e := o.Merge(&x)
	expectErr(t, "Merge", e, api.OK)
	expectInts(t, "Merge", changed, 1)
	c := new(assembly.Assembler).Clone()
	add(t, c, s)
	for _, x := range []*assembly.Assembler{&x, &o, c} {
		expectRecords(t, "the assembler", x, []api.Span{s})
	}
}
