package index_test

import (
	"fmt"
	"math"
	"math/rand"
	"slices"
	"strings"
	"testing"

	"sleuth/api"
	"sleuth/attribute"
	"sleuth/bitmap"
	"sleuth/block"
	"sleuth/column"
	"sleuth/index"
	"sleuth/span"
)

// record returns a valid span.
func record(trace, id int) api.Span {
	return api.Span{Trace: trace, Id: id, Clock: 1, Kind: api.Server, Service: "api", Operation: "get", Start: 10, End: 30}
}

func text(s string) api.Value { return api.Value{Kind: api.KindString, Text: s} }

func number(n int) api.Value { return api.Value{Kind: api.KindInt, Int: n} }

func truth(n int) api.Value { return api.Value{Kind: api.KindBool, Int: n} }

// mixed returns records that differ in all fields, in order.
func mixed() []api.Span {
	attr := func(key string, v api.Value) api.Attr { return api.Attr{Key: key, Value: v} }
	return []api.Span{
		{Trace: 1, Id: 2, Clock: 3, Kind: api.Client, Service: "web", Operation: "get", Start: -50, End: -50,
			Attrs: []api.Attr{attr("count", number(7)), attr("region", text("eu"))}},
		{Trace: 1, Id: 2, Revision: 4, Clock: 3, Kind: api.Client, Service: "web", Version: "v1", Operation: "get", Start: -50, End: 100, Error: true,
			Attrs: []api.Attr{attr("count", text("7")), attr("region", text("eu"))}},
		{Trace: 1, Id: 3, Parent: 2, Clock: 7, Kind: api.Server, Service: "api", Version: "v2", Operation: "put", Start: 0, End: 8,
			Attrs: []api.Attr{attr("count", number(-3)), attr("retry", truth(1))}},
		{Trace: 5 << api.SlotBits, Id: 1, Parent: 1, Clock: 7, Kind: api.Consumer, Service: "app", Operation: "put", Start: 60, End: 61,
			Attrs: []api.Attr{attr("count", truth(1))}},
	}
}

// random returns some records, some of which have the same identities.
func random(rng *rand.Rand, n int) []api.Span {
	names := []string{"a", "api", "db", "web"}
	var l []api.Span
	for range n {
		s := record((1+rng.Intn(3))<<(rng.Intn(3)*10), 1+rng.Intn(3))
		s.Revision, s.Parent, s.Clock, s.Kind = rng.Intn(2), rng.Intn(2), 1+rng.Intn(4), 1+rng.Intn(5)
		s.Service, s.Version, s.Operation = names[rng.Intn(4)], []string{"", "v1", "v2"}[rng.Intn(3)], names[rng.Intn(2)]
		s.Start = rng.Intn(9) - 4
		s.End, s.Error = s.Start+rng.Intn(5), rng.Intn(2) == 0
		for _, key := range names[:rng.Intn(4)] {
			values := []api.Value{text(names[rng.Intn(4)]), number(rng.Intn(3)), truth(rng.Intn(2))}
			s.Attrs = append(s.Attrs, api.Attr{Key: key, Value: values[rng.Intn(3)]})
		}
		l = append(l, s)
	}
	return l
}

// built returns the block of some records, and made its index.
func built(t *testing.T, l ...api.Span) *block.Block {
	t.Helper()
	b, e := block.Build(l)
	if e != api.OK {
		t.Fatalf("the block of %d records: %d", len(l), e)
	}
	return b
}

func made(t *testing.T, l ...api.Span) *index.Index {
	t.Helper()
	x, e := index.Build(built(t, l...))
	if e != api.OK || x == nil {
		t.Fatalf("Build of %d records: %v, %d", len(l), x, e)
	}
	return x
}

func expectErr(t *testing.T, what string, got, want api.Errno) {
	t.Helper()
	if got != want {
		t.Errorf("%s: the error %d, want %d", what, got, want)
	}
}

func expectRows(t *testing.T, what string, got bitmap.Bitmap, want ...int) {
	t.Helper()
	if !slices.Equal(got.Rows(), want) {
		t.Errorf("%s: the rows %v, want %v", what, got.Rows(), want)
	}
}

// P30.1: an index has as many rows as its block.
func TestBuild(t *testing.T) {
	for n := range 5 {
		if x := made(t, mixed()[:n]...); x.Len() != n {
			t.Errorf("Len: %d, want %d", x.Len(), n)
		}
	}
	x, e := index.Build(nil)
	expectErr(t, "Build of nil", e, api.ErrArgument)
	if x != nil {
		t.Errorf("Build of nil: %v", x)
	}
}

// P30.2: the values of each indexed field, and their rows.
func TestValues(t *testing.T) {
	x := made(t, mixed()...)
	type found struct {
		value api.Value
		rows  []int
	}
	for _, c := range []struct {
		field, key string
		want       []found
	}{
		{"service", "", []found{{text("api"), []int{2}}, {text("app"), []int{3}}, {text("web"), []int{0, 1}}}},
		{"version", "", []found{{text(""), []int{0, 3}}, {text("v1"), []int{1}}, {text("v2"), []int{2}}}},
		{"operation", "", []found{{text("get"), []int{0, 1}}, {text("put"), []int{2, 3}}}},
		{"kind", "", []found{{text("client"), []int{0, 1}}, {text("consumer"), []int{3}}, {text("server"), []int{2}}}},
		{"error", "", []found{{truth(0), []int{0, 2, 3}}, {truth(1), []int{1}}}},
		{"root", "", []found{{truth(0), []int{2, 3}}, {truth(1), []int{0, 1}}}},
		{"attr", "count", []found{{text("7"), []int{1}}, {number(-3), []int{2}}, {number(7), []int{0}}, {truth(1), []int{3}}}},
		{"attr", "region", []found{{text("eu"), []int{0, 1}}}},
		{"attr", "retry", []found{{truth(1), []int{2}}}},
		{"attr", "other", nil},
		{"attr", "", nil},
		{"attr", "no name\n", nil},
	} {
		what := c.field + " " + c.key
		values, e := x.Values(c.field, c.key)
		expectErr(t, what, e, api.OK)
		if !slices.EqualFunc(values, c.want, func(v api.Value, w found) bool { return v == w.value }) {
			t.Errorf("Values of %s: %v, want %v", what, values, c.want)
		}
		for _, w := range c.want {
			got, e := x.Rows(c.field, c.key, w.value)
			expectErr(t, what, e, api.OK)
			expectRows(t, fmt.Sprint(what, " ", w.value), got, w.rows...)
		}
		for _, v := range []api.Value{{}, text("other"), number(99), {Kind: 9, Text: "web"}, {Kind: api.KindString, Text: "web", Int: 1}} {
			got, e := x.Rows(c.field, c.key, v)
			expectErr(t, what, e, api.OK)
			expectRows(t, fmt.Sprint(what, " ", v), got)
		}
	}
}

// P30.2: fields that are not indexed.
func TestValuesErrors(t *testing.T) {
	for _, x := range []*index.Index{made(t), made(t, mixed()...)} {
		for _, c := range [][2]string{
			{"service", "region"}, {"error", "x"}, {"root", "root"}, {"", ""}, {"other", ""}, {"region", ""}, {"Service", ""}, {"", "region"},
			{"trace", ""}, {"id", ""}, {"parent", ""}, {"revision", ""}, {"clock", ""}, {"start", ""}, {"end", ""}, {"duration", ""}, {"slot", ""},
		} {
			values, e := x.Values(c[0], c[1])
			expectErr(t, fmt.Sprint("Values of ", c), e, api.ErrUnknown)
			got, f := x.Rows(c[0], c[1], text("web"))
			expectErr(t, fmt.Sprint("Rows of ", c), f, api.ErrUnknown)
			if values != nil || got.Len() != 0 {
				t.Errorf("%v: %v, %v", c, values, got)
			}
		}
	}
}

// P30.3: the zone of each number.
func TestZone(t *testing.T) {
	x := made(t, mixed()...)
	for field, want := range map[string]column.Zone{
		"trace":    {Least: 1, Greatest: 5 << api.SlotBits},
		"id":       {Least: 1, Greatest: 3},
		"parent":   {Least: 0, Greatest: 2},
		"revision": {Least: 0, Greatest: 4},
		"clock":    {Least: 3, Greatest: 7},
		"start":    {Least: -50, Greatest: 60},
		"end":      {Least: -50, Greatest: 100},
		"duration": {Least: 0, Greatest: 150},
		"slot":     {Least: 0, Greatest: 5},
	} {
		zone, ok, e := x.Zone(field)
		if zone != want || !ok || e != api.OK {
			t.Errorf("Zone of %s: %v, %t, %d, want %v", field, zone, ok, e, want)
		}
		zone, ok, e = made(t).Zone(field)
		if zone != (column.Zone{}) || ok || e != api.OK {
			t.Errorf("Zone of %s without rows: %v, %t, %d", field, zone, ok, e)
		}
	}
	for _, field := range []string{"service", "version", "operation", "kind", "error", "root", "attr", "count", "", "other", "Start"} {
		zone, ok, e := x.Zone(field)
		if zone != (column.Zone{}) || ok || e != api.ErrUnknown {
			t.Errorf("Zone of %s: %v, %t, %d", field, zone, ok, e)
		}
	}
}

// P30.3: the zone of a block with one row.
func TestZoneOfOne(t *testing.T) {
	s := record(api.MaxId, 1)
	s.Start, s.End = -api.MaxTime, -api.MaxTime
	x := made(t, s)
	for field, n := range map[string]int{"trace": api.MaxId, "slot": api.MaxSlot, "start": -api.MaxTime, "end": -api.MaxTime, "duration": 0} {
		if zone, ok, e := x.Zone(field); zone != (column.Zone{Least: n, Greatest: n}) || !ok || e != api.OK {
			t.Errorf("Zone of %s: %v, %t, %d", field, zone, ok, e)
		}
	}
}

// P30.5: indexes are equal if they say the same of values and zones.
func TestEqual(t *testing.T) {
	l := mixed()
	x := made(t, l...)
	if !x.Equal(x) || !x.Equal(made(t, l...)) || !made(t).Equal(made(t)) {
		t.Error("Equal of the same rows")
	}
	for k, change := range []func(s *api.Span){
		func(s *api.Span) { s.Service = "other" },
		func(s *api.Span) { s.Version = "other" },
		func(s *api.Span) { s.Operation = "other" },
		func(s *api.Span) { s.Kind = api.Internal },
		func(s *api.Span) { s.Error = !s.Error },
		func(s *api.Span) { s.Parent = 0 },
		func(s *api.Span) { s.Trace++ },
		func(s *api.Span) { s.Start, s.End = s.Start+50, s.End+50 },
		func(s *api.Span) { s.Clock = api.MaxSmall },
		func(s *api.Span) { s.Attrs = nil },
		func(s *api.Span) { s.Attrs[0].Key = "b" },
		func(s *api.Span) { s.Attrs[0].Value = truth(0) },
	} {
		changed := mixed()
		change(&changed[3])
		if y := made(t, changed...); x.Equal(y) || y.Equal(x) {
			t.Errorf("Equal of another index: the change %d", k)
		}
	}
	for n := range 4 {
		if y := made(t, l[:n]...); x.Equal(y) || y.Equal(x) {
			t.Errorf("Equal of the index of %d rows", n)
		}
	}
}

// P30.5: what no zone and no value shows makes no difference.
func TestEqualOfOtherBlocks(t *testing.T) {
	l := mixed()
	other := mixed()
	l[1].Clock, other[1].Clock = 4, 5
	l[1].Links, other[2].Links = []api.Ref{{Trace: 1, Id: 1}}, []api.Ref{{Trace: 2, Id: 2}}
	if !made(t, l...).Equal(made(t, other...)) {
		t.Error("Equal of the indexes of two blocks that differ inside of a zone")
	}
}

// P30.1 to P30.5: a nil index.
func TestNil(t *testing.T) {
	var x *index.Index
	invalid := api.Pred{Op: 99}
	values, e := x.Values("other", "")
	expectErr(t, "Values", e, api.ErrArgument)
	found, e := x.Rows("service", "", text("web"))
	expectErr(t, "Rows", e, api.ErrArgument)
	zone, ok, e := x.Zone("start")
	expectErr(t, "Zone", e, api.ErrArgument)
	sure, e := x.Sure(api.Pred{})
	expectErr(t, "Sure", e, api.ErrArgument)
	candidates, e := x.Candidates(invalid)
	expectErr(t, "Candidates", e, api.ErrArgument)
	exact, e := x.Exact(api.Pred{})
	expectErr(t, "Exact", e, api.ErrArgument)
	low, high, e := x.Count(api.Pred{})
	expectErr(t, "Count", e, api.ErrArgument)
	if x.Len() != 0 || values != nil || found.Len() != 0 || zone != (column.Zone{}) || ok || sure.Len() != 0 || candidates.Len() != 0 || exact || low != 0 || high != 0 {
		t.Error("a nil index has rows")
	}
	if !x.Equal(nil) || x.Equal(made(t)) || made(t).Equal(x) {
		t.Error("Equal of a nil index")
	}
}

// P1: an index that Build has not made is that of no rows.
func TestZeroValue(t *testing.T) {
	x := &index.Index{}
	values, e := x.Values("service", "")
	expectErr(t, "Values", e, api.OK)
	_, ok, e := x.Zone("start")
	expectErr(t, "Zone", e, api.OK)
	low, high, e := x.Count(less("start", 5))
	expectErr(t, "Count", e, api.OK)
	if x.Len() != 0 || len(values) != 0 || ok || low != 0 || high != 0 || !x.Equal(made(t)) {
		t.Error("an index that is not made has rows")
	}
}

// Contract: results are new, and an index does not change with them.
func TestIndependence(t *testing.T) {
	x, y := made(t, mixed()...), made(t, mixed()...)
	values, _ := x.Values("attr", "count")
	values[0] = text("other")
	again, _ := x.Values("attr", "count")
	if again[0] != text("7") || !x.Equal(y) {
		t.Errorf("Values has changed: %v", again)
	}
}

func test(op int, field, key string, v api.Value) api.Pred {
	return api.Pred{Op: op, Field: field, Key: key, Value: v}
}

func equal(field string, n int) api.Pred { return test(api.PredEqual, field, "", number(n)) }

func less(field string, n int) api.Pred { return test(api.PredLess, field, "", number(n)) }

func is(field, s string) api.Pred { return test(api.PredEqual, field, "", text(s)) }

func has(key string) api.Pred { return api.Pred{Op: api.PredHas, Key: key} }

func join(op int, args ...api.Pred) api.Pred { return api.Pred{Op: op, Args: args} }

func not(p api.Pred) api.Pred { return join(api.PredNot, p) }

// expectAnswer expects what an index says of a predicate.
func expectAnswer(t *testing.T, x *index.Index, p api.Pred, sure, candidates []int) {
	t.Helper()
	what := attribute.Print(p)
	got, e := x.Sure(p)
	expectErr(t, what, e, api.OK)
	expectRows(t, "Sure of "+what, got, sure...)
	got, e = x.Candidates(p)
	expectErr(t, what, e, api.OK)
	expectRows(t, "Candidates of "+what, got, candidates...)
	exact, e := x.Exact(p)
	expectErr(t, what, e, api.OK)
	if exact != slices.Equal(sure, candidates) {
		t.Errorf("Exact of %s: %t", what, exact)
	}
	low, high, e := x.Count(p)
	if low != len(sure) || high != len(candidates) || e != api.OK {
		t.Errorf("Count of %s: %d, %d, %d, want %d, %d", what, low, high, e, len(sure), len(candidates))
	}
}

// The examples of the document.
func TestExamples(t *testing.T) {
	first, second := record(1, 1), record(1, 2)
	first.Service, first.End = "api", first.Start+5
	second.Service, second.End = "db", second.Start+9
	x := made(t, first, second)
	expectAnswer(t, x, is("service", "api"), []int{0}, []int{0})
	expectAnswer(t, x, less("duration", 10), []int{0, 1}, []int{0, 1})
	expectAnswer(t, x, less("duration", 5), nil, nil)
	expectAnswer(t, x, less("duration", 7), nil, []int{0, 1})
	expectAnswer(t, x, not(less("duration", 7)), nil, []int{0, 1})
	expectAnswer(t, x, join(api.PredAnd, is("service", "api"), less("duration", 7)), nil, []int{0})
}

// P30.4: tests of indexed fields are exact.
func TestNames(t *testing.T) {
	x := made(t, mixed()...)
	all := []int{0, 1, 2, 3}
	for _, c := range []struct {
		p    api.Pred
		want []int
	}{
		{api.Pred{}, all},
		{not(api.Pred{}), nil},
		{is("service", "web"), []int{0, 1}},
		{is("service", "we"), nil},
		{is("version", ""), []int{0, 3}},
		{is("kind", "server"), []int{2}},
		{is("kind", "producer"), nil},
		{is("error", "true"), nil},
		{test(api.PredEqual, "error", "", truth(1)), []int{1}},
		{test(api.PredEqual, "root", "", truth(1)), []int{0, 1}},
		{equal("root", 1), nil},
		{equal("service", 5), nil},
		{less("service", 5), nil},
		{test(api.PredPrefix, "service", "", text("ap")), []int{2, 3}},
		{test(api.PredPrefix, "service", "", text("")), all},
		{test(api.PredLess, "service", "", text("app")), []int{2}},
		{test(api.PredLess, "service", "", text("apq")), []int{2, 3}},
		{test(api.PredEqual, "attr", "count", number(7)), []int{0}},
		{test(api.PredEqual, "attr", "count", text("7")), []int{1}},
		{test(api.PredEqual, "attr", "count", truth(1)), []int{3}},
		{test(api.PredLess, "attr", "count", number(7)), []int{2}},
		{test(api.PredLess, "attr", "count", number(8)), []int{0, 2}},
		{test(api.PredPrefix, "attr", "region", text("e")), []int{0, 1}},
		{test(api.PredEqual, "attr", "other", text("eu")), nil},
		{test(api.PredEqual, "attr", "service", text("web")), nil},
		{has("count"), all},
		{has("region"), []int{0, 1}},
		{has("retry"), []int{2}},
		{has("service"), nil},
		{not(has("region")), []int{2, 3}},
		{is("other", "web"), nil},
		{equal("deployment", 1), nil},
		{not(is("other", "web")), all},
		{join(api.PredAnd, has("region"), is("version", "v1")), []int{1}},
		{join(api.PredAnd, has("region"), is("version", "v1"), is("service", "api")), nil},
		{join(api.PredOr, has("retry"), is("version", "v1"), is("service", "app")), []int{1, 2, 3}},
		{join(api.PredAnd, has("region")), []int{0, 1}},
		{join(api.PredOr, has("region")), []int{0, 1}},
	} {
		expectAnswer(t, x, c.p, c.want, c.want)
	}
}

// P30.4: tests of numbers are compared with the zone: the least start is -50, and the greatest one 60.
func TestNumbers(t *testing.T) {
	x := made(t, mixed()...)
	all := []int{0, 1, 2, 3}
	for _, c := range []struct {
		p                api.Pred
		sure, candidates []int
	}{
		{less("start", -51), nil, nil},
		{less("start", -50), nil, nil},
		{less("start", -49), nil, all},
		{less("start", 60), nil, all},
		{less("start", 61), all, all},
		{less("start", api.MaxTime), all, all},
		{less("start", -api.MaxTime), nil, nil},
		{equal("start", -51), nil, nil},
		{equal("start", -50), nil, all},
		{equal("start", 5), nil, all},
		{equal("start", 60), nil, all},
		{equal("start", 61), nil, nil},
		{is("start", "5"), nil, nil},
		{test(api.PredEqual, "start", "", truth(1)), nil, nil},
		{test(api.PredLess, "start", "", text("z")), nil, nil},
		{test(api.PredPrefix, "start", "", text("")), nil, nil},
		{not(is("start", "5")), all, all},
		{not(less("start", 61)), nil, nil},
		{not(less("start", -50)), all, all},
		{not(equal("start", 5)), nil, all},
		{equal("trace", 5<<api.SlotBits+1), nil, nil},
		{equal("slot", 3), nil, all},
		{join(api.PredAnd, is("service", "web"), less("start", 5)), nil, []int{0, 1}},
		{join(api.PredOr, is("service", "web"), less("start", 5)), []int{0, 1}, all},
		{join(api.PredOr, is("service", "web"), less("start", -50)), []int{0, 1}, []int{0, 1}},
		{join(api.PredAnd, is("service", "web"), less("start", 61)), []int{0, 1}, []int{0, 1}},
		{not(join(api.PredOr, is("service", "web"), less("start", 5))), nil, []int{2, 3}},
		{not(join(api.PredAnd, is("service", "web"), less("start", 5))), []int{2, 3}, all},
	} {
		expectAnswer(t, x, c.p, c.sure, c.candidates)
	}
}

// P30.4: a number that all rows have is tested exactly.
func TestNarrowZone(t *testing.T) {
	x := made(t, record(1, 1), record(1, 2), record(1, 3))
	all := []int{0, 1, 2}
	expectAnswer(t, x, equal("start", 10), all, all)
	expectAnswer(t, x, equal("start", 9), nil, nil)
	expectAnswer(t, x, equal("start", 11), nil, nil)
	expectAnswer(t, x, less("start", 10), nil, nil)
	expectAnswer(t, x, less("start", 11), all, all)
	expectAnswer(t, x, equal("id", 2), nil, all)
}

// P30.4: without rows there are none.
func TestNoRows(t *testing.T) {
	for _, p := range []api.Pred{{}, not(api.Pred{}), equal("start", 0), less("start", 5), not(less("start", 5)), is("service", "web"), has("a"), not(has("a"))} {
		expectAnswer(t, made(t), p, nil, nil)
	}
}

// P30.4: the errors of predicates that are not valid.
func TestInvalid(t *testing.T) {
	deep := api.Pred{}
	for range api.MaxDepth {
		deep = not(deep)
	}
	wide := join(api.PredAnd, slices.Repeat([]api.Pred{{}}, attribute.MaxNodes)...)
	for _, x := range []*index.Index{made(t), made(t, mixed()...)} {
		for what, c := range map[string]struct {
			p    api.Pred
			want api.Errno
		}{
			"too deep":             {deep, api.ErrDepth},
			"too many nodes":       {wide, api.ErrLimit},
			"an unknown operation": {api.Pred{Op: 8}, api.ErrKind},
			"and of nothing":       {join(api.PredAnd), api.ErrForm},
			"or of nothing":        {join(api.PredOr), api.ErrForm},
			"not of nothing":       {join(api.PredNot), api.ErrForm},
			"no field":             {test(api.PredEqual, "", "", number(1)), api.ErrName},
			"no key":               {has(""), api.ErrName},
			"a key of a name":      {test(api.PredEqual, "service", "x", text("web")), api.ErrName},
			"a value out of range": {equal("start", math.MinInt), api.ErrForm},
			"a great value":        {less("start", api.MaxTime+1), api.ErrForm},
			"a long value":         {is("service", strings.Repeat("x", api.MaxText+1)), api.ErrLong},
			"a bool that is less":  {test(api.PredLess, "error", "", truth(1)), api.ErrType},
			"in an argument":       {join(api.PredOr, api.Pred{}, not(equal("start", math.MinInt))), api.ErrForm},
		} {
			sure, e := x.Sure(c.p)
			expectErr(t, "Sure of "+what, e, c.want)
			candidates, e := x.Candidates(c.p)
			expectErr(t, "Candidates of "+what, e, c.want)
			exact, e := x.Exact(c.p)
			expectErr(t, "Exact of "+what, e, c.want)
			low, high, e := x.Count(c.p)
			expectErr(t, "Count of "+what, e, c.want)
			if sure.Len() != 0 || candidates.Len() != 0 || exact || low != 0 || high != 0 {
				t.Errorf("%s has rows", what)
			}
		}
	}
}

// predicate returns a random valid predicate, and whether a test of a number occurs in it.
func predicate(rng *rand.Rand, depth int) (api.Pred, bool) {
	if op := rng.Intn(6); depth > 0 && op >= 3 {
		var args []api.Pred
		isNumber := false
		for range []int{1 + rng.Intn(3), 1 + rng.Intn(3), 1}[op-3] {
			arg, is := predicate(rng, depth-1)
			args, isNumber = append(args, arg), isNumber || is
		}
		return join([]int{api.PredAnd, api.PredOr, api.PredNot}[op-3], args...), isNumber
	}
	names := []string{"a", "api", "db", "web", "", "v1"}
	values := []api.Value{text(names[rng.Intn(6)]), number(rng.Intn(12) - 5), truth(rng.Intn(2))}
	fields := []string{"service", "version", "operation", "kind", "error", "root", "other"}
	numbers := []string{"clock", "duration", "end", "id", "parent", "revision", "slot", "start", "trace"}
	switch rng.Intn(7) {
	case 0:
		return api.Pred{}, false
	case 1:
		return has(names[rng.Intn(3)]), false
	case 2:
		return test(api.PredEqual, "attr", names[rng.Intn(3)], values[rng.Intn(3)]), false
	case 3:
		return test(api.PredLess, fields[rng.Intn(7)], "", values[rng.Intn(2)]), false
	case 4:
		return test(api.PredPrefix, fields[rng.Intn(7)], "", values[0]), false
	case 5:
		return test(api.PredEqual, fields[rng.Intn(7)], "", values[rng.Intn(3)]), false
	}
	return test([]int{api.PredEqual, api.PredLess}[rng.Intn(2)], numbers[rng.Intn(9)], "", values[1]), true
}

// P30.6: sure rows satisfy a predicate, rows that satisfy it are candidates, and without tests of numbers both are the same.
func TestBounds(t *testing.T) {
	rng := rand.New(rand.NewSource(30))
	for round := range 3000 {
		b := built(t, random(rng, round%9)...)
		x, _ := index.Build(b)
		p, isNumber := predicate(rng, 4)
		what := attribute.Print(p)
		holds := b.Select(p)
		sure, e := x.Sure(p)
		expectErr(t, what, e, api.OK)
		candidates, e := x.Candidates(p)
		expectErr(t, what, e, api.OK)
		exact, e := x.Exact(p)
		expectErr(t, what, e, api.OK)
		low, high, e := x.Count(p)
		expectErr(t, what, e, api.OK)
		if !bitmap.Subset(sure, holds) || !bitmap.Subset(holds, candidates) || low > holds.Len() || holds.Len() > high {
			t.Fatalf("%s: sure are %v, candidates %v, and %v satisfy it", what, sure.Rows(), candidates.Rows(), holds.Rows())
		}
		if !isNumber && !exact || exact != bitmap.Equal(sure, candidates) {
			t.Fatalf("%s: exact is %t", what, exact)
		}
	}
}

// P30.6: the rows of all values of a name, a kind or a flag are all rows, each once; more records have at least the old values.
func TestParts(t *testing.T) {
	rng := rand.New(rand.NewSource(6))
	for round := range 200 {
		l := random(rng, round%12)
		x, more := made(t, l...), made(t, append(l, random(rng, 5)...)...)
		for _, field := range []string{"service", "version", "operation", "kind", "error", "root"} {
			values, _ := x.Values(field, "")
			var all []int
			for _, v := range values {
				found, _ := x.Rows(field, "", v)
				all = append(all, found.Rows()...)
			}
			slices.Sort(all)
			every, _ := bitmap.Range(0, x.Len())
			if !slices.Equal(all, every.Rows()) || x.Len() != len(span.Set(l)) {
				t.Fatalf("the rows of all values of %s: %v", field, all)
			}
		}
		for _, at := range [][2]string{{"service", ""}, {"version", ""}, {"operation", ""}, {"kind", ""}, {"error", ""}, {"root", ""}, {"attr", "a"}, {"attr", "db"}} {
			old, _ := x.Values(at[0], at[1])
			now, _ := more.Values(at[0], at[1])
			for _, v := range old {
				if !slices.Contains(now, v) {
					t.Fatalf("%v: the value %v is missing", at, v)
				}
			}
		}
	}
}

// P30.2, P30.3: what is said of values and zones agrees with the spans.
func TestModel(t *testing.T) {
	rng := rand.New(rand.NewSource(3))
	for round := range 100 {
		l := span.Set(random(rng, round%12))
		x := made(t, l...)
		for _, field := range append(span.Fields(), "attr") {
			expectField(t, x, l, field)
		}
	}
}

// expectField expects that an index says the right thing of a field.
func expectField(t *testing.T, x *index.Index, l []api.Span, field string) {
	t.Helper()
	key := ""
	if field == attribute.FieldAttr {
		key = "a"
	}
	rows := map[api.Value][]int{}
	var ints []int
	for row, s := range l {
		if v, ok := (span.View{Span: s}).Value(field, key); ok {
			rows[v], ints = append(rows[v], row), append(ints, v.Int)
		}
	}
	if kind, _ := span.FieldKind(field); kind == api.KindInt {
		c, _ := column.New(ints)
		want, wantOk := c.Zone()
		if zone, ok, e := x.Zone(field); zone != want || ok != wantOk || e != api.OK {
			t.Fatalf("Zone of %s: %v, %t, %d, want %v", field, zone, ok, e, want)
		}
		return
	}
	values, e := x.Values(field, key)
	expectErr(t, field, e, api.OK)
	if len(values) != len(rows) || !slices.IsSortedFunc(values, attribute.CompareValues) {
		t.Fatalf("Values of %s: %v, want those of %v", field, values, rows)
	}
	for v, want := range rows {
		got, e := x.Rows(field, key, v)
		expectErr(t, field, e, api.OK)
		expectRows(t, fmt.Sprint(field, " ", v), got, want...)
	}
}
