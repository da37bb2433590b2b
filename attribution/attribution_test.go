package attribution_test

import (
	"fmt"
	"math"
	"math/rand"
	"reflect"
	"slices"
	"testing"

	"sleuth/api"
	"sleuth/assembly"
	"sleuth/attribution"
	"sleuth/critical"
)

// record returns a valid span of the trace 7, by the clock 1.
func record(id, parent, start, end int) api.Span {
	return api.Span{Trace: 7, Id: id, Parent: parent, Clock: 1, Kind: api.Internal, Service: "web", Operation: "get", Start: start, End: end}
}

// in returns a span of another service, failed one with an error, and consumer one for which nobody waits.
func in(service string, s api.Span) api.Span {
	s.Service = service
	return s
}

func failed(s api.Span) api.Span {
	s.Error = true
	return s
}

func consumer(s api.Span) api.Span {
	s.Kind = api.Consumer
	return s
}

// even is an assignment for the clocks 1 to 3.
var even = []api.Offset{{Clock: 1}, {Clock: 2}, {Clock: 3}}

func expectIds(t *testing.T, what string, got []int, f api.Errno, want []int, wantErr api.Errno) {
	t.Helper()
	if !slices.Equal(got, want) || f != wantErr {
		t.Errorf("%s: %v, %d; want %v, %d", what, got, f, want, wantErr)
	}
}

// family returns the spans of the document's example.
func family() []api.Span {
	return []api.Span{failed(in("db", record(3, 1, 30, 90))), failed(in("web", record(1, 0, 0, 100))), failed(in("api", record(2, 1, 10, 40)))}
}

// P19.2, P19.3, P19.6: the first example of the document.
func TestFirstExample(t *testing.T) {
	l := family()
	table, f := attribution.Of(l, even, 1)
	expectTable(t, "Of", table, f, attribution.Table{entry("api", "", "get", 20, 1, 1, 1), entry("db", "", "get", 60, 1, 1, 1), entry("web", "", "get", 20, 1, 1, 0)}, api.OK)
	expectInt(t, "Total", attribution.Total(table), 100)
	expectIds(t, "Origins", attribution.Origins(l), api.OK, []int{2, 3}, api.OK)
	causes, f := attribution.Causes(l, 1)
	expectIds(t, "Causes", causes, f, []int{2, 3}, api.OK)
	var parts []int
	for _, s := range attribution.Shares(table) {
		parts = append(parts, s.Parts)
	}
	if !slices.Equal(parts, []int{200000, 600000, 200000}) {
		t.Errorf("Shares: %v", parts)
	}
}

// P19.2, P19.3: the second example of the document.
func TestSecondExample(t *testing.T) {
	l := family()
	l[0] = consumer(l[0])
	table, f := attribution.Of(l, even, 1)
	expectTable(t, "Of", table, f, attribution.Table{entry("api", "", "get", 30, 1, 1, 1), entry("db", "", "get", 0, 1, 1, 1), entry("web", "", "get", 70, 1, 1, 0)}, api.OK)
	expectIds(t, "Origins", attribution.Origins(l), api.OK, []int{2, 3}, api.OK)
	causes, f := attribution.Causes(l, 1)
	expectIds(t, "Causes", causes, f, []int{2}, api.OK)
	causes, f = attribution.Causes(l, 3)
	expectIds(t, "Causes", causes, f, []int{3}, api.OK)
}

// P19.2: origins and causes of spans far below, of spans without errors, and of circles.
func TestOrigins(t *testing.T) {
	l := []api.Span{
		failed(record(9, 0, 0, 9)), failed(record(5, 9, 0, 9)), record(4, 9, 0, 9), failed(record(3, 4, 0, 9)), failed(record(8, 5, 0, 9)), failed(record(2, 5, 0, 9)),
		failed(consumer(record(7, 2, 0, 9))), failed(record(1, 7, 0, 9)), record(6, 8, 0, 9), failed(record(20, 99, 0, 9)),
		failed(record(11, 11, 0, 9)), failed(consumer(record(12, 12, 0, 9))), failed(record(13, 14, 0, 9)), failed(record(14, 13, 0, 9)), failed(record(15, 14, 0, 9)), record(16, 16, 0, 9),
	}
	expectIds(t, "Origins", attribution.Origins(l), api.OK, []int{1, 2, 3, 8, 12, 15, 20}, api.OK)
	for _, c := range []struct {
		id   int
		want []int
		f    api.Errno
	}{
		{9, []int{2, 8}, api.OK},
		{5, []int{2, 8}, api.OK},
		{4, nil, api.OK},
		{3, []int{3}, api.OK},
		{2, []int{2}, api.OK},
		{7, []int{1}, api.OK},
		{6, nil, api.OK},
		{20, []int{20}, api.OK},
		{11, nil, api.OK},
		{12, []int{12}, api.OK},
		{13, []int{15}, api.OK},
		{14, []int{15}, api.OK},
		{16, nil, api.OK},
		{99, nil, api.ErrNotFound},
		{0, nil, api.ErrNotFound},
		{math.MinInt, nil, api.ErrNotFound},
	} {
		causes, f := attribution.Causes(l, c.id)
		expectIds(t, fmt.Sprint("Causes of ", c.id), causes, f, c.want, c.f)
	}
	expectIds(t, "Origins of nothing", attribution.Origins(nil), api.OK, nil, api.OK)
	causes, f := attribution.Causes(nil, 1)
	expectIds(t, "Causes of nothing", causes, f, nil, api.ErrNotFound)
}

// P19.3: spans with one key are together, and only the span and its descendants count.
func TestOf(t *testing.T) {
	l := []api.Span{record(1, 0, 0, 100), record(2, 1, 10, 40), failed(record(3, 1, 30, 90)), failed(consumer(record(4, 3, 50, 200))), record(5, 0, 0, 1000), in("db", record(6, 99, 0, 50))}
	l[1].Version, l[3].Operation = "2", "put"
	for _, c := range []struct {
		root int
		want attribution.Table
	}{
		{1, attribution.Table{entry("web", "", "get", 80, 2, 1, 1), entry("web", "", "put", 0, 1, 1, 1), entry("web", "2", "get", 20, 1, 0, 0)}},
		{2, attribution.Table{entry("web", "2", "get", 30, 1, 0, 0)}},
		{3, attribution.Table{entry("web", "", "get", 60, 1, 1, 1), entry("web", "", "put", 0, 1, 1, 1)}},
		{4, attribution.Table{entry("web", "", "put", 150, 1, 1, 1)}},
		{5, attribution.Table{entry("web", "", "get", 1000, 1, 0, 0)}},
		{6, attribution.Table{entry("db", "", "get", 50, 1, 0, 0)}},
	} {
		table, f := attribution.Of(l, even, c.root)
		expectTable(t, fmt.Sprint("Of ", c.root), table, f, c.want, api.OK)
	}
	still := []api.Span{record(1, 0, 5, 5), record(2, 1, 0, 9)}
	table, f := attribution.Of(still, even, 1)
	expectTable(t, "Of a span without a duration", table, f, attribution.Table{entry("web", "", "get", 0, 2, 0, 0)}, api.OK)
}

// P19.3: the errors are those of critical.Exclusive.
func TestOfErrors(t *testing.T) {
	l := append(family(), record(5, 6, 0, 9), record(6, 5, 0, 9))
	var many []api.Span
	for id := range api.MaxSpans + 1 {
		many = append(many, record(1+id, 0, 0, 9))
	}
	for _, c := range []struct {
		l    []api.Span
		v    []api.Offset
		root int
		f    api.Errno
	}{
		{l, []api.Offset{{Clock: 1}, {Clock: 1, Value: math.MaxInt}}, 9, api.ErrOrder},
		{l, []api.Offset{{Clock: 2, Value: math.MaxInt}}, 9, api.ErrRange},
		{many, nil, 1, api.ErrGap},
		{many, even, 999, api.ErrLimit},
		{l, even, 9, api.ErrNotFound},
		{nil, nil, 0, api.ErrNotFound},
		{l, even, 5, api.ErrCycle},
		{many[1:], even, 2, api.OK},
	} {
		table, f := attribution.Of(c.l, c.v, c.root)
		_, want := critical.Exclusive(c.l, c.v, c.root)
		if f != c.f || f != want || f != api.OK && len(table) > 0 {
			t.Errorf("Of %d: %v, %d; want the error %d", c.root, table, f, c.f)
		}
	}
}

// someTrace returns some spans by the clocks 1 to 3, whose parents are before or behind them, or missing.
func someTrace(random *rand.Rand) []api.Span {
	var l []api.Span
	n := 2 + random.Intn(8)
	for id := 1; id <= n; id++ {
		start := random.Intn(20)
		s := record(id, random.Intn(id), start, start+random.Intn(20))
		if random.Intn(12) == 0 {
			s.Parent = random.Intn(n + 2)
		}
		s.Clock, s.Error = 1+random.Intn(3), random.Intn(3) > 0
		s.Kind = 1 + random.Intn(5)
		s.Service, s.Version, s.Operation = []string{"a", "b"}[random.Intn(2)], []string{"", "1"}[random.Intn(2)], []string{"x", "y"}[random.Intn(2)]
		l = append(l, s)
	}
	random.Shuffle(len(l), func(i, j int) { l[i], l[j] = l[j], l[i] })
	return l
}

// isOrigin says it as the document does.
func isOrigin(l []api.Span, s api.Span) bool {
	return s.Error && !slices.ContainsFunc(l, func(c api.Span) bool { return c.Parent == s.Id && c.Kind != api.Consumer && c.Error })
}

// reachable returns for each pair of ids whether one goes from the first one to the second one, by going on until nothing changes.
func reachable(l []api.Span) map[[2]int]bool {
	reach := map[[2]int]bool{}
	for _, s := range l {
		reach[[2]int{s.Id, s.Id}] = s.Error
	}
	for range l {
		for _, c := range l {
			for _, s := range l {
				if c.Error && c.Kind != api.Consumer && reach[[2]int{s.Id, c.Parent}] {
					reach[[2]int{s.Id, c.Id}] = true
				}
			}
		}
	}
	return reach
}

// P19.2, P19.3, P19.7: many traces and assignments.
func TestMany(t *testing.T) {
	random := rand.New(rand.NewSource(2))
	attributed, caused := 0, 0
	for range 800 {
		l := someTrace(random)
		v := []api.Offset{{Clock: 1, Value: random.Intn(9)}, {Clock: 2, Value: random.Intn(9)}, {Clock: 3, Value: random.Intn(9)}}
		reach, tree := reachable(l), assembly.Build(l, 7)
		var origins []int
		for id := range 20 {
			k := slices.IndexFunc(l, func(s api.Span) bool { return s.Id == id })
			if k >= 0 && isOrigin(l, l[k]) {
				origins = append(origins, id)
			}
		}
		expectIds(t, fmt.Sprint("Origins of ", l), attribution.Origins(l), api.OK, origins, api.OK)
		for _, s := range l {
			var want []int
			for _, id := range origins {
				if reach[[2]int{s.Id, id}] {
					want = append(want, id)
				}
			}
			causes, f := attribution.Causes(l, s.Id)
			expectIds(t, fmt.Sprintf("Causes of %d in %v", s.Id, l), causes, f, want, api.OK)
			if s.Error && len(causes) == 0 && !slices.Contains(tree.Cyclic, s.Id) {
				t.Errorf("the span %d of %v has no cause", s.Id, l)
			}
			caused += len(causes)
			if slices.Contains(tree.Cyclic, s.Id) {
				continue
			}
			attributed++
			expectAttribution(t, l, v, s, tree.Subtree(s.Id))
		}
	}
	if attributed < 2000 || caused < 2000 {
		t.Errorf("%d spans are attributed, %d causes found", attributed, caused)
	}
}

// expectAttribution adds up the spans below a span.
func expectAttribution(t *testing.T, l []api.Span, v []api.Offset, root api.Span, below []int) {
	t.Helper()
	exclusive, f := critical.Exclusive(l, v, root.Id)
	expectErr(t, "Exclusive", f, api.OK)
	sums := map[attribution.Key][4]int{}
	for _, s := range l {
		if !slices.Contains(below, s.Id) {
			continue
		}
		n := entry(s.Service, s.Version, s.Operation, 0, 1, 0, 0)
		for _, x := range exclusive {
			if x.Id == s.Id {
				n.Time = x.Time
			}
		}
		if s.Error {
			n.Errors = 1
		}
		if isOrigin(l, s) {
			n.Origins = 1
		}
		sums = sumsOf(sums, attribution.Table{n}, 1)
	}
	table, f := attribution.Of(l, v, root.Id)
	expectErr(t, "Of", f, api.OK)
	expectSums(t, fmt.Sprintf("Of %d in %v", root.Id, l), table, sums)
	expectErr(t, "Check of an attribution", attribution.Check(table), api.OK)
	expectInt(t, "Total of an attribution", attribution.Total(table), root.End-root.Start)
}

// P19.7: the attribution depends neither on the order of the spans, nor on a number that is added to all offsets.
func TestSameAttribution(t *testing.T) {
	random := rand.New(rand.NewSource(3))
	for range 300 {
		l := someTrace(random)
		v := []api.Offset{{Clock: 1, Value: random.Intn(9)}, {Clock: 2, Value: random.Intn(9)}, {Clock: 3, Value: random.Intn(9)}}
		want, wantErr := attribution.Of(l, v, 1)
		random.Shuffle(len(l), func(i, j int) { l[i], l[j] = l[j], l[i] })
		for k := range v {
			v[k].Value -= 1000
		}
		got, f := attribution.Of(l, v, 1)
		expectTable(t, "Of", got, f, want, wantErr)
	}
}

// P1: lists that are no traces.
func TestStrangeLists(t *testing.T) {
	zero, other := failed(record(0, 0, 0, 9)), failed(record(2, 1, 1, 8))
	other.Trace = 2
	low := api.Span{Trace: math.MinInt, Id: math.MinInt, Parent: math.MinInt, Clock: 1, Kind: -1, Start: math.MaxInt, End: math.MinInt, Error: true}
	for _, l := range [][]api.Span{
		{zero},
		{zero, failed(record(1, 0, 0, 9))},
		{record(1, 0, 0, 9), failed(record(2, 1, 1, 8)), record(2, 1, 1, 8)},
		{record(1, 0, 0, 9), other, record(2, 1, 1, 8), record(3, 2, 2, 7)},
		{failed(record(1, 0, 0, 9)), failed(record(1, 2, 0, 9)), failed(record(2, 1, 0, 9))},
		{failed(record(3, 0, 0, 9)), failed(record(2, 3, 0, 9)), failed(record(2, 1, 0, 9)), failed(record(1, 2, 0, 9))},
		{low, {}, zero},
		{record(1, 0, 9, 0), record(2, 1, 8, 1)},
	} {
		attribution.Origins(l)
		for _, root := range []int{math.MinInt, 0, 1, 2, 3} {
			attribution.Of(l, []api.Offset{{Clock: 0}, {Clock: 1}}, root)
			attribution.Causes(l, root)
		}
	}
}

// Rules: arguments are not modified.
func TestIndependent(t *testing.T) {
	l, v := append(make([]api.Span, 0, 5), family()...), slices.Clone(even)
	attribution.Of(l, v, 1)
	attribution.Origins(l)
	attribution.Causes(l, 1)
	if !reflect.DeepEqual(l, family()) || !reflect.DeepEqual(l[3:5], make([]api.Span, 2)) || !slices.Equal(v, even) {
		t.Error("an argument was modified")
	}
}
