package block_test

import (
	"fmt"
	"math/rand"
	"slices"
	"testing"

	"sleuth/api"
	"sleuth/bitmap"
	"sleuth/block"
	"sleuth/dictionary"
	"sleuth/span"
)

// P29.2: each int column.
func TestInts(t *testing.T) {
	b := made(t, mixed()...)
	for column, want := range map[string][]int{
		"trace":    {1, 1, 1, 5 << api.SlotBits, api.MaxId},
		"id":       {2, 2, 3, 1, api.MaxId},
		"parent":   {0, 0, 2, 1, api.MaxId},
		"revision": {0, 4, 0, 0, api.MaxSmall},
		"clock":    {3, 3, 7, 7, api.MaxSmall},
		"kind":     {api.Client, api.Client, api.Server, api.Consumer, api.Internal},
		"start":    {-50, -50, 0, api.MaxTime, -api.MaxTime},
		"duration": {0, 150, 8, 0, api.MaxTime},
		"error":    {0, 1, 0, 0, 1},
	} {
		got, e := b.Ints(column)
		expectErr(t, column, e, api.OK)
		if !slices.Equal(got, want) {
			t.Errorf("%s: %v, want %v", column, got, want)
		}
		got, e = made(t).Ints(column)
		if len(got) != 0 || e != api.OK {
			t.Errorf("%s of no rows: %v, %d", column, got, e)
		}
	}
}

// P29.2: each string column, and its dictionary.
func TestStrings(t *testing.T) {
	b := made(t, mixed()...)
	for column, want := range map[string][]string{
		"service":   {"web", "web", "api", "api", "a"},
		"version":   {"", "v1", "v2", "", "a"},
		"operation": {"get", "get", "get/user", "put", "a"},
	} {
		got, e := b.Strings(column)
		expectErr(t, column, e, api.OK)
		if !slices.Equal(got, want) {
			t.Errorf("%s: %q, want %q", column, got, want)
		}
		names, e := b.Dictionary(column)
		expectErr(t, column, e, api.OK)
		if d, _ := dictionary.Build(want); !slices.Equal(names, d) {
			t.Errorf("the dictionary of %s: %q, want %q", column, names, d)
		}
		got, e = made(t).Strings(column)
		names, f := made(t).Dictionary(column)
		if len(got) != 0 || len(names) != 0 || e != api.OK || f != api.OK {
			t.Errorf("%s of no rows: %q, %q", column, got, names)
		}
	}
}

// P29.2: columns that there are not.
func TestColumnErrors(t *testing.T) {
	b := made(t, mixed()...)
	for _, column := range []string{"service", "version", "operation", "end", "slot", "root", "attr", "region", "", "Trace", "links"} {
		got, e := b.Ints(column)
		expectErr(t, "Ints of "+column, e, api.ErrUnknown)
		if got != nil {
			t.Errorf("Ints of %s: %v", column, got)
		}
	}
	for _, column := range []string{"trace", "kind", "error", "attr", "region", "", "Service", "keys"} {
		got, e := b.Strings(column)
		expectErr(t, "Strings of "+column, e, api.ErrUnknown)
		names, f := b.Dictionary(column)
		expectErr(t, "Dictionary of "+column, f, api.ErrUnknown)
		if got != nil || names != nil {
			t.Errorf("%s: %q, %q", column, got, names)
		}
	}
}

// The first example of the document.
func TestExample(t *testing.T) {
	first, second := record(5, 1), record(5, 2)
	first.Service, second.Service, second.Version = "a", "b", "v"
	b := made(t, second, first)
	if s, isRow := b.At(0); !isRow || s.Id != 1 {
		t.Errorf("At of 0: %v, %t", s, isRow)
	}
	if services, e := b.Strings("service"); e != api.OK || !slices.Equal(services, []string{"a", "b"}) {
		t.Errorf("Strings of service: %q, %d", services, e)
	}
	if versions, e := b.Dictionary("version"); e != api.OK || !slices.Equal(versions, []string{"", "v"}) {
		t.Errorf("Dictionary of version: %q, %d", versions, e)
	}
}

// P29.3: the keys, and the rows and values of each.
func TestAttr(t *testing.T) {
	b := made(t, mixed()...)
	if keys := b.Keys(); !slices.Equal(keys, []string{"count", "region", "retry"}) {
		t.Errorf("Keys: %q", keys)
	}
	for key, want := range map[string]struct {
		rows   []int
		values []api.Attr
	}{
		"count":    {[]int{0, 1}, []api.Attr{number("", -7), number("", 0)}},
		"region":   {[]int{0, 1, 4}, []api.Attr{text("", "eu"), text("", ""), text("", "us")}},
		"retry":    {[]int{1, 3}, []api.Attr{truth("", 1), truth("", 0)}},
		"":         {},
		"other":    {},
		"coun":     {},
		"service":  {},
		"not\ttxt": {},
	} {
		with, values := b.Attr(key)
		expectRows(t, "Attr of "+key, with, want.rows...)
		if !slices.EqualFunc(values, want.values, func(v api.Value, a api.Attr) bool { return v == a.Value }) {
			t.Errorf("Attr of %q: %v, want %v", key, values, want.values)
		}
	}
	if with, values := made(t).Attr("count"); with.Len() != 0 || len(values) != 0 || len(made(t).Keys()) != 0 {
		t.Error("attributes of no rows")
	}
}

// P29.4: fields and attributes of rows, and the zero Value where there is none.
func TestProject(t *testing.T) {
	b := made(t, mixed()...)
	columns := []api.Column{
		{Var: "x", Field: "service"}, {Field: "duration"}, {Field: "kind"}, {Field: "attr", Key: "region"},
		{Field: "end"}, {Field: "root"}, {Field: "slot"}, {Field: "other"}, {Field: "service", Key: "region"}, {Field: "duration"},
	}
	got, e := b.Project(rows(t, 1, 3), columns)
	expectErr(t, "Project", e, api.OK)
	value := func(a api.Attr) api.Value { return a.Value }
	want := [][]api.Value{
		{value(text("", "web")), value(number("", 150)), value(text("", "client")), value(text("", "")), value(number("", 100)), value(truth("", 1)), value(number("", 0)), {}, {}, value(number("", 150))},
		{value(text("", "api")), value(number("", 0)), value(text("", "consumer")), {}, value(number("", api.MaxTime)), value(truth("", 0)), value(number("", 5)), {}, {}, value(number("", 0))},
	}
	if !slices.EqualFunc(got, want, slices.Equal) {
		t.Errorf("Project: %v, want %v", got, want)
	}
}

// P29.4: no rows, no columns, and rows that there are not.
func TestProjectEdges(t *testing.T) {
	b := made(t, mixed()...)
	got, e := b.Project(bitmap.Bitmap{}, []api.Column{{Field: "id"}})
	if len(got) != 0 || e != api.OK {
		t.Errorf("Project of no rows: %v, %d", got, e)
	}
	got, e = b.Project(rows(t, 0, 4), nil)
	if len(got) != 2 || len(got[0]) != 0 || len(got[1]) != 0 || e != api.OK {
		t.Errorf("Project of no columns: %v, %d", got, e)
	}
	for _, l := range [][]int{{5}, {0, 9}} {
		got, e = b.Project(rows(t, l...), []api.Column{{Field: "id"}})
		expectErr(t, fmt.Sprint("Project of ", l), e, api.ErrRange)
		if got != nil {
			t.Errorf("Project of %v: %v", l, got)
		}
	}
}

func test(op int, field string, a api.Attr) api.Pred {
	return api.Pred{Op: op, Field: field, Key: a.Key, Value: a.Value}
}

func join(op int, args ...api.Pred) api.Pred { return api.Pred{Op: op, Args: args} }

// P29.5: the rows that satisfy a predicate.
func TestSelect(t *testing.T) {
	b := made(t, mixed()...)
	isWeb := test(api.PredEqual, "service", text("", "web"))
	hasRegion := api.Pred{Op: api.PredHas, Key: "region"}
	for what, c := range map[string]struct {
		p    api.Pred
		want []int
	}{
		"true":      {api.Pred{}, []int{0, 1, 2, 3, 4}},
		"web":       {isWeb, []int{0, 1}},
		"not web":   {join(api.PredNot, isWeb), []int{2, 3, 4}},
		"a":         {test(api.PredPrefix, "service", text("", "a")), []int{2, 3, 4}},
		"short":     {test(api.PredLess, "duration", number("", 9)), []int{0, 2, 3}},
		"region":    {hasRegion, []int{0, 1, 4}},
		"eu":        {test(api.PredEqual, "attr", text("region", "eu")), []int{0}},
		"both":      {join(api.PredAnd, hasRegion, isWeb), []int{0, 1}},
		"one":       {join(api.PredOr, hasRegion, test(api.PredEqual, "slot", number("", 5))), []int{0, 1, 3, 4}},
		"none":      {test(api.PredEqual, "other", number("", 5)), nil},
		"root":      {test(api.PredEqual, "root", truth("", 1)), []int{0, 1}},
		"last kind": {test(api.PredEqual, "kind", text("", "internal")), []int{4}},
	} {
		expectRows(t, what, b.Select(c.p), c.want...)
	}
}

// P1: Select of a predicate that is not valid comes to an end.
func TestSelectInvalid(t *testing.T) {
	b := made(t, mixed()...)
	for _, p := range []api.Pred{{Op: 99}, {Op: -1}, {Op: api.PredNot}, {Op: api.PredAnd}, {Op: api.PredEqual}, {Op: api.PredPrefix, Field: "id"}} {
		b.Select(p)
	}
}

// P29.5: the last record of each identity wins.
func TestWinners(t *testing.T) {
	expectRows(t, "Winners", made(t, mixed()...).Winners(), 1, 2, 3, 4)
	expectRows(t, "Winners of no rows", made(t).Winners())
	var l []api.Span
	for _, revision := range []int{2, 0, 1} {
		for _, trace := range []int{7, 8} {
			for _, id := range []int{1, 2} {
				s := record(trace, id)
				s.Revision = revision
				l = append(l, s)
			}
		}
	}
	b := made(t, l...)
	expectRows(t, "Winners of three revisions", b.Winners(), 2, 5, 8, 11)
	got, _ := b.Rows(b.Winners())
	expectSpans(t, "Winners of three revisions", got, span.Winners(l))
}

// P29.5: the traces, each once.
func TestTraces(t *testing.T) {
	if got := made(t, mixed()...).Traces(); !slices.Equal(got, []int{1, 5 << api.SlotBits, api.MaxId}) {
		t.Errorf("Traces: %v", got)
	}
	if got := made(t).Traces(); len(got) != 0 {
		t.Errorf("Traces of no rows: %v", got)
	}
}

// predicates returns tests of several fields.
func predicates() []api.Pred {
	return []api.Pred{
		{},
		test(api.PredEqual, "service", text("", "api")), test(api.PredPrefix, "service", text("", "a")), test(api.PredLess, "version", text("", "v2")),
		test(api.PredEqual, "error", truth("", 1)), test(api.PredLess, "duration", number("", 3)), test(api.PredEqual, "start", number("", 0)),
		test(api.PredEqual, "attr", text("a", "db")), test(api.PredLess, "attr", number("api", 1)), {Op: api.PredHas, Key: "a"}, {Op: api.PredHas, Key: "db"},
	}
}

// P29.3 to P29.5, P29.8: what is chosen agrees with the spans, and And, Or and Not with the sets of rows.
func TestChosen(t *testing.T) {
	rng := rand.New(rand.NewSource(8))
	for round := range 100 {
		l := span.Set(random(rng, round%25))
		b := made(t, l...)
		expectChosen(t, b, l)
		for _, p := range predicates() {
			for _, q := range predicates() {
				x, y := b.Select(p), b.Select(q)
				if !bitmap.Equal(b.Select(join(api.PredAnd, p, q)), bitmap.And(x, y)) || !bitmap.Equal(b.Select(join(api.PredOr, p, q)), bitmap.Or(x, y)) {
					t.Fatalf("the rows of %v and %v together", p, q)
				}
			}
			others, _ := bitmap.Not(b.Select(p), len(l))
			if !bitmap.Equal(b.Select(join(api.PredNot, p)), others) {
				t.Fatalf("the rows of not %v", p)
			}
			got, _ := b.Rows(b.Select(p))
			expectSpans(t, fmt.Sprint("Select of ", p), got, span.Filter(p, l))
		}
	}
}

// expectChosen expects that attributes, winners and traces of a block are those of its records.
func expectChosen(t *testing.T, b *block.Block, l []api.Span) {
	t.Helper()
	keys := map[string]bool{}
	for _, key := range []string{"a", "api", "db", "web"} {
		with, values := b.Attr(key)
		var wantRows []int
		var wantValues []api.Value
		for row, s := range l {
			for _, a := range s.Attrs {
				if keys[a.Key] = true; a.Key == key {
					wantRows, wantValues = append(wantRows, row), append(wantValues, a.Value)
				}
			}
		}
		expectRows(t, "Attr of "+key, with, wantRows...)
		if !slices.Equal(values, wantValues) {
			t.Fatalf("Attr of %s: %v, want %v", key, values, wantValues)
		}
	}
	if len(b.Keys()) != len(keys) || !slices.IsSorted(b.Keys()) {
		t.Fatalf("Keys: %v, want %v", b.Keys(), keys)
	}
	got, _ := b.Rows(b.Winners())
	expectSpans(t, "Winners", got, span.Winners(l))
	if !slices.Equal(b.Traces(), span.Traces(l)) {
		t.Fatalf("Traces: %v, want %v", b.Traces(), span.Traces(l))
	}
}
