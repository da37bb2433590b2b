package span_test

import (
	"math/rand"
	"slices"
	"testing"

	"sleuth/api"
	"sleuth/attribute"
	"sleuth/span"
)

// values returns the values of all fields of a span, by the table of the document.
func values(s api.Span) map[string]api.Value {
	kinds := []string{"", "internal", "client", "server", "producer", "consumer"}
	isError, isRoot := 0, 0
	if s.Error {
		isError = 1
	}
	if s.Parent == 0 {
		isRoot = 1
	}
	return map[string]api.Value{
		"trace": number(s.Trace), "id": number(s.Id), "parent": number(s.Parent), "revision": number(s.Revision),
		"clock": number(s.Clock), "start": number(s.Start), "end": number(s.End),
		"kind":    text(kinds[s.Kind]),
		"service": text(s.Service), "version": text(s.Version), "operation": text(s.Operation),
		"error": truth(isError), "duration": number(s.End - s.Start), "slot": number(s.Trace >> 20), "root": truth(isRoot),
	}
}

// someSpan returns a valid span.
func someSpan(random *rand.Rand) api.Span {
	s := ordinary()
	s.Trace, s.Id, s.Parent = 1+random.Intn(api.MaxId), 1+random.Intn(9), random.Intn(3)
	s.Revision, s.Clock, s.Kind = random.Intn(9), 1+random.Intn(9), 1+random.Intn(5)
	s.Service, s.Operation = []string{"api", "web", "db"}[random.Intn(3)], []string{"get", "put"}[random.Intn(2)]
	s.Version = []string{"", "v1", "v2"}[random.Intn(3)]
	s.Start = random.Intn(20) - 10
	s.End = s.Start + random.Intn(20)
	s.Error = random.Intn(2) == 1
	s.Attrs = attrs(random.Intn(4))
	return s
}

// P11.8, and the third example of the document.
func TestFields(t *testing.T) {
	names := []string{"clock", "duration", "end", "error", "id", "kind", "operation", "parent", "revision", "root", "service", "slot", "start", "trace", "version"}
	got := span.Fields()
	if !slices.Equal(got, names) {
		t.Errorf("Fields: %v", got)
	}
	clear(got)
	if !slices.Equal(span.Fields(), names) {
		t.Error("the names are shared")
	}
	for field, v := range values(ordinary()) {
		if kind, isField := span.FieldKind(field); kind != v.Kind || !isField {
			t.Errorf("FieldKind(%q): %d, %v", field, kind, isField)
		}
	}
	for _, field := range []string{"", "attr", "deployment", "Trace", "traces", "trac", "attrs", "links", "partition", "\xff"} {
		if kind, isField := span.FieldKind(field); kind != 0 || isField {
			t.Errorf("FieldKind(%q): %d, %v", field, kind, isField)
		}
	}
}

// expectValue compares a value of a view with what is expected.
func expectValue(t *testing.T, s api.Span, field, key string, want api.Value, wantFound bool) {
	t.Helper()
	got, isFound := span.View{Span: s}.Value(field, key)
	if got != want || isFound != wantFound {
		t.Errorf("Value(%q, %q) of %v: %v, %v; want %v, %v", field, key, s, got, isFound, want, wantFound)
	}
}

// P11.9.
func TestValue(t *testing.T) {
	random := rand.New(rand.NewSource(5))
	l := []api.Span{ordinary(), with(func(s *api.Span) { s.Parent, s.Error, s.Version = 0, false, "" })}
	for range 100 {
		l = append(l, someSpan(random))
	}
	for _, s := range l {
		for field, want := range values(s) {
			expectValue(t, s, field, "", want, true)
			expectValue(t, s, field, "db", api.Value{}, false)
			expectValue(t, s, field, field, api.Value{}, false)
		}
	}
	s := ordinary()
	expectValue(t, s, "attr", "db", number(1), true)
	expectValue(t, s, "attr", "region", text("eu"), true)
	for _, key := range []string{"", "a", "regio", "service", "attr"} {
		expectValue(t, s, "attr", key, api.Value{}, false)
		expectValue(t, api.Span{}, "attr", key, api.Value{}, false)
	}
	for _, field := range []string{"", "db", "region", "deployment", "Service", "partition"} {
		expectValue(t, s, field, "", api.Value{}, false)
		expectValue(t, s, field, "db", api.Value{}, false)
	}
	var source attribute.Source = span.View{Span: s}
	if v, isFound := source.Value("duration", ""); v != number(100) || !isFound {
		t.Errorf("Value as a source: %v, %v", v, isFound)
	}
}

// test returns a test of a field.
func test(op int, field string, v api.Value) api.Pred {
	return api.Pred{Op: op, Field: field, Value: v}
}

// P11.10.
func TestHolds(t *testing.T) {
	s := ordinary()
	not := func(p api.Pred) api.Pred { return api.Pred{Op: api.PredNot, Args: []api.Pred{p}} }
	for _, c := range []struct {
		p    api.Pred
		want bool
	}{
		{api.Pred{}, true},
		{not(api.Pred{}), false},
		{test(api.PredEqual, "service", text("api")), true},
		{test(api.PredEqual, "service", text("ap")), false},
		{test(api.PredPrefix, "service", text("ap")), true},
		{test(api.PredEqual, "kind", text("server")), true},
		{test(api.PredEqual, "kind", number(api.Server)), false},
		{test(api.PredEqual, "error", truth(1)), true},
		{test(api.PredEqual, "root", truth(0)), true},
		{test(api.PredEqual, "slot", number(3)), true},
		{test(api.PredLess, "duration", number(101)), true},
		{test(api.PredLess, "duration", number(100)), false},
		{test(api.PredLess, "nothing", number(100)), false},
		{not(test(api.PredLess, "nothing", number(100))), true},
		{api.Pred{Op: api.PredHas, Key: "region"}, true},
		{api.Pred{Op: api.PredHas, Key: "service"}, false},
		{api.Pred{Op: api.PredEqual, Field: "attr", Key: "db", Value: number(1)}, true},
		{api.Pred{Op: api.PredEqual, Field: "attr", Key: "db", Value: number(2)}, false},
		{api.Pred{Op: api.PredAnd, Args: []api.Pred{test(api.PredEqual, "id", number(7)), test(api.PredEqual, "id", number(8))}}, false},
		{api.Pred{Op: api.PredOr, Args: []api.Pred{test(api.PredEqual, "id", number(7)), test(api.PredEqual, "id", number(8))}}, true},
	} {
		if got := span.Holds(c.p, s); got != c.want {
			t.Errorf("Holds(%s): %v", attribute.Print(c.p), got)
		}
		want := []api.Span{s, s}
		if !c.want {
			want = nil
		}
		expectSpans(t, "Filter by "+attribute.Print(c.p), span.Filter(c.p, []api.Span{s, s}), want)
	}
}

// P11.10: a span satisfies what its view satisfies, and Filter keeps the order and repetitions.
func TestFilter(t *testing.T) {
	random := rand.New(rand.NewSource(6))
	for range 200 {
		var l []api.Span
		for range random.Intn(8) {
			l = append(l, someSpan(random))
		}
		l = append(l, l...)
		field := span.Fields()[random.Intn(15)]
		v, _ := span.View{Span: someSpan(random)}.Value(field, "")
		if len(l) > 0 && random.Intn(2) == 0 {
			v = values(l[0])[field]
		}
		for _, p := range []api.Pred{test(api.PredEqual, field, v), test(api.PredLess, field, v), {Op: api.PredHas, Key: "k01"}} {
			var want []api.Span
			for _, s := range l {
				holds := attribute.Holds(p, span.View{Span: s})
				if span.Holds(p, s) != holds {
					t.Errorf("Holds(%s, %v) is not %v", attribute.Print(p), s, holds)
				}
				if holds {
					want = append(want, s)
				}
			}
			expectSpans(t, "Filter by "+attribute.Print(p), span.Filter(p, l), want)
		}
	}
	expectSpans(t, "Filter", span.Filter(api.Pred{}, nil), nil)
}
