package estimate_test

import (
	"fmt"
	"math"
	"math/rand"
	"reflect"
	"slices"
	"testing"

	"sleuth/api"
	"sleuth/estimate"
	"sleuth/histogram"
	"sleuth/sampling"
	"sleuth/span"
)

// record returns a valid span of the service api that lasts so long.
func record(trace, id, duration int) api.Span {
	return api.Span{Trace: trace, Id: id, Clock: 1, Kind: api.Server, Service: "api", Operation: "get", End: duration}
}

// in returns a span of other names, and failed one with an error.
func in(service, version, operation string, s api.Span) api.Span {
	s.Service, s.Version, s.Operation = service, version, operation
	return s
}

func failed(s api.Span) api.Span {
	s.Error = true
	return s
}

// trace returns a trace with a weight.
func trace(id, weight int, l ...api.Span) api.Trace {
	return api.Trace{Id: id, Weight: weight, Spans: l}
}

// long returns a trace with the weight 1 and so many spans.
func long(id, size int) api.Trace {
	t := trace(id, 1)
	for k := range size {
		t.Spans = append(t.Spans, record(id, k+1, 9))
	}
	return t
}

func service(name string) estimate.Group { return estimate.Group{Service: name} }

func version(service, name string) estimate.Group {
	return estimate.Group{Service: service, Version: name}
}

func operation(service, name string) estimate.Group {
	return estimate.Group{Service: service, Operation: name}
}

// line returns the line of a group with its spans, errors, duration and traces.
func line(g estimate.Group, spans, errors, duration, traces int) estimate.Line {
	return estimate.Line{Group: g, Total: estimate.Total{Spans: spans, Errors: errors, Duration: duration, Traces: traces}}
}

func expectErr(t *testing.T, what string, got, want api.Errno) {
	t.Helper()
	if got != want {
		t.Errorf("%s: the error %d, want %d", what, got, want)
	}
}

func expectLines(t *testing.T, what string, got, want []estimate.Line) {
	t.Helper()
	if !slices.Equal(got, want) {
		t.Errorf("%s: %v, want %v", what, got, want)
	}
}

func expectTotal(t *testing.T, what string, got, want estimate.Total) {
	t.Helper()
	if got != want {
		t.Errorf("%s: %v, want %v", what, got, want)
	}
}

// by returns the lines of a list of traces, and expects no error.
func by(t *testing.T, l []api.Trace, level int) []estimate.Line {
	t.Helper()
	lines, e := estimate.By(l, level)
	expectErr(t, fmt.Sprint("By at the level ", level), e, api.OK)
	return lines
}

// levels are all levels, and notLevels other numbers.
func levels() []int {
	return []int{estimate.ByService, estimate.ByVersion, estimate.ByOperation}
}

func notLevels() []int { return []int{0, -1, 4, 5, math.MinInt, math.MaxInt} }

// P25.1: valid lists, and the errors of others in their order.
func TestCheck(t *testing.T) {
	bad := record(7, 2, 9)
	bad.Kind = 0
	alien := record(8, 2, 9)
	a, b := record(7, 1, 9), record(7, 2, 9)
	for k, c := range []struct {
		l []api.Trace
		e api.Errno
	}{
		{nil, api.OK},
		{[]api.Trace{trace(1, 1)}, api.OK},
		{[]api.Trace{trace(7, 3, a, b, record(7, 1<<40, 1<<40))}, api.OK},
		{[]api.Trace{trace(1, 1024), trace(2, 1000), trace(7, 1, b), trace(8, 1, alien), trace(1<<40, 1)}, api.OK},
		{[]api.Trace{trace(0, 1)}, api.ErrRange},
		{[]api.Trace{trace(-1, 1)}, api.ErrRange},
		{[]api.Trace{trace(1<<40+1, 1)}, api.ErrRange},
		{[]api.Trace{trace(math.MinInt, 1)}, api.ErrRange},
		{[]api.Trace{trace(math.MaxInt, 1)}, api.ErrRange},
		{[]api.Trace{trace(1, 0)}, api.ErrRange},
		{[]api.Trace{trace(1, -1)}, api.ErrRange},
		{[]api.Trace{trace(1, 1025)}, api.ErrRange},
		{[]api.Trace{trace(1, math.MinInt)}, api.ErrRange},
		{[]api.Trace{trace(1, math.MaxInt)}, api.ErrRange},
		{[]api.Trace{trace(2, 1), trace(1, 1)}, api.ErrOrder},
		{[]api.Trace{trace(2, 1), trace(2, 1)}, api.ErrOrder},
		{[]api.Trace{trace(1, 1), trace(3, 1), trace(2, 1)}, api.ErrOrder},
		{[]api.Trace{trace(7, 1, a, bad)}, api.ErrKind},
		{[]api.Trace{trace(7, 1, api.Span{})}, api.ErrRange},
		{[]api.Trace{trace(7, 1, a, alien)}, api.ErrConflict},
		{[]api.Trace{trace(9, 1, alien)}, api.ErrConflict},
		{[]api.Trace{trace(7, 1, b, a)}, api.ErrOrder},
		{[]api.Trace{trace(7, 1, a, a)}, api.ErrOrder},
		{[]api.Trace{trace(7, 1, a, record(7, 3, 9), b)}, api.ErrOrder},
		// As many spans as permitted, and one more.
		{[]api.Trace{long(1, 4096)}, api.OK},
		{[]api.Trace{long(1, 4097)}, api.ErrLimit},
		{[]api.Trace{long(1, 1000), long(2, 3000), trace(3, 1), long(4, 96)}, api.OK},
		{[]api.Trace{long(1, 1000), long(2, 3000), trace(3, 1), long(4, 97)}, api.ErrLimit},
		// The errors in their order.
		{[]api.Trace{trace(2, 1), trace(0, 1)}, api.ErrRange},
		{[]api.Trace{trace(2, 1), trace(1, 0)}, api.ErrRange},
		{[]api.Trace{trace(7, 0, bad)}, api.ErrRange},
		{[]api.Trace{trace(8, 1), trace(7, 1, bad)}, api.ErrOrder},
		{[]api.Trace{trace(7, 1, bad), trace(0, 1)}, api.ErrKind},
		{[]api.Trace{trace(7, 1, b, a), trace(8, 1, bad)}, api.ErrOrder},
		{[]api.Trace{trace(8, 1, bad)}, api.ErrKind},
		{[]api.Trace{trace(7, 1, record(7, 3, 9), bad)}, api.ErrKind},
		{[]api.Trace{trace(7, 1, record(7, 3, 9), alien)}, api.ErrConflict},
		{[]api.Trace{trace(7, 1, alien, bad)}, api.ErrConflict},
		{[]api.Trace{trace(7, 1, b, a, bad)}, api.ErrOrder},
		{[]api.Trace{long(1, 4097), trace(1, 1)}, api.ErrOrder},
		{[]api.Trace{long(1, 4097), trace(7, 1, a, a)}, api.ErrOrder},
		{[]api.Trace{long(1, 4097), trace(7, 1025)}, api.ErrRange},
	} {
		expectErr(t, fmt.Sprint("Check of the list ", k), estimate.Check(c.l), c.e)
	}
}

// P25.2: the groups of a span, and the error.
func TestGroupOf(t *testing.T) {
	if !slices.Equal(levels(), []int{1, 2, 3}) {
		t.Errorf("the levels are %v", levels())
	}
	for _, s := range []api.Span{in("db", "v1", "put", record(1, 1, 9)), in("db", "", "put", record(1, 1, 9)), {}} {
		for level, want := range map[int]estimate.Group{1: service(s.Service), 2: version(s.Service, s.Version), 3: operation(s.Service, s.Operation)} {
			g, e := estimate.GroupOf(s, level)
			expectErr(t, "GroupOf", e, api.OK)
			if g != want {
				t.Errorf("GroupOf at the level %d: %v, want %v", level, g, want)
			}
		}
		for _, level := range notLevels() {
			g, e := estimate.GroupOf(s, level)
			expectErr(t, fmt.Sprint("GroupOf at the level ", level), e, api.ErrKind)
			if g != (estimate.Group{}) {
				t.Errorf("GroupOf with an error: %v", g)
			}
		}
	}
}

// P25.2: the first example of the document.
func TestFirstExample(t *testing.T) {
	l := []api.Trace{trace(7, 4, in("api", "v1", "get", record(7, 1, 10)), failed(in("api", "v2", "get", record(7, 2, 5))))}
	expectErr(t, "Check", estimate.Check(l), api.OK)
	expectLines(t, "ByService", by(t, l, estimate.ByService), []estimate.Line{line(service("api"), 8, 4, 60, 4)})
	expectLines(t, "ByVersion", by(t, l, estimate.ByVersion), []estimate.Line{line(version("api", "v1"), 4, 0, 40, 4), line(version("api", "v2"), 4, 4, 20, 4)})
	expectLines(t, "ByOperation", by(t, l, estimate.ByOperation), []estimate.Line{line(operation("api", "get"), 8, 4, 60, 4)})
}

// P25.2: the lines of several traces, in order, and each trace once for a group.
func TestBy(t *testing.T) {
	l := []api.Trace{
		trace(1, 1, in("web", "2", "get", record(1, 1, 3)), in("web", "10", "put", record(1, 2, 4)), failed(in("Web", "", "get", record(1, 3, 0)))),
		trace(2, 100),
		trace(3, 1024, in("web", "2", "Get", record(3, 1, 1<<40)), failed(in("web", "2", "get", record(3, 2, 1))), failed(in("a", "", "get", record(3, 3, 7)))),
		trace(4, 5, in("web", "", "put", record(4, 9, 2))),
	}
	expectErr(t, "Check", estimate.Check(l), api.OK)
	expectLines(t, "ByService", by(t, l, estimate.ByService), []estimate.Line{
		line(service("Web"), 1, 1, 0, 1),
		line(service("a"), 1024, 1024, 7168, 1024),
		line(service("web"), 2055, 1024, 1<<50+1024+17, 1030),
	})
	expectLines(t, "ByVersion", by(t, l, estimate.ByVersion), []estimate.Line{
		line(version("Web", ""), 1, 1, 0, 1),
		line(version("a", ""), 1024, 1024, 7168, 1024),
		line(version("web", ""), 5, 0, 10, 5),
		line(version("web", "10"), 1, 0, 4, 1),
		line(version("web", "2"), 2049, 1024, 1<<50+1024+3, 1025),
	})
	expectLines(t, "ByOperation", by(t, l, estimate.ByOperation), []estimate.Line{
		line(operation("Web", "get"), 1, 1, 0, 1),
		line(operation("a", "get"), 1024, 1024, 7168, 1024),
		line(operation("web", "Get"), 1024, 0, 1<<50, 1024),
		line(operation("web", "get"), 1025, 1024, 1024+3, 1025),
		line(operation("web", "put"), 6, 0, 14, 6),
	})
	for _, level := range levels() {
		expectLines(t, "By of nothing", by(t, nil, level), nil)
		expectLines(t, "By of traces without spans", by(t, []api.Trace{trace(1, 1), trace(2, 9)}, level), nil)
	}
	for _, level := range notLevels() {
		for _, list := range [][]api.Trace{nil, l} {
			lines, e := estimate.By(list, level)
			expectErr(t, fmt.Sprint("By at the level ", level), e, api.ErrKind)
			expectLines(t, "By with an error", lines, nil)
		}
	}
}

// P25.2: the greatest totals that valid lists have.
func TestByLimits(t *testing.T) {
	l := []api.Trace{long(1, 4096)}
	l[0].Weight = 1024
	for k := range l[0].Spans {
		l[0].Spans[k] = failed(record(1, k+1, 1<<40))
	}
	expectErr(t, "Check", estimate.Check(l), api.OK)
	expectLines(t, "ByService", by(t, l, estimate.ByService), []estimate.Line{line(service("api"), 1<<22, 1<<22, 1<<62, 1024)})
}

// durations returns the histogram of some durations.
func durations(t *testing.T, values ...int) histogram.Histogram {
	t.Helper()
	h, e := histogram.Of(values...)
	expectErr(t, "histogram.Of", e, api.OK)
	return h
}

// P25.4: the histograms of groups.
func TestLatency(t *testing.T) {
	l := []api.Trace{
		trace(1, 3, in("web", "1", "get", record(1, 1, 100)), in("web", "2", "put", record(1, 2, 5)), in("db", "", "get", record(1, 3, 0))),
		trace(5, 1, in("web", "1", "put", record(5, 1, 101)), in("web", "1", "put", record(5, 2, 1<<40)), in("web", "", "get", record(5, 3, 17))),
	}
	for _, c := range []struct {
		level int
		g     estimate.Group
		want  histogram.Histogram
	}{
		{1, service("web"), durations(t, 100, 100, 100, 5, 5, 5, 101, 1<<40, 17)},
		{1, service("db"), durations(t, 0, 0, 0)},
		{1, service("api"), durations(t)},
		{1, version("web", "1"), durations(t)},
		{1, operation("web", "get"), durations(t)},
		{2, version("web", "1"), durations(t, 100, 100, 100, 101, 1<<40)},
		{2, version("web", "2"), durations(t, 5, 5, 5)},
		{2, version("web", ""), durations(t, 17)},
		{2, version("db", ""), durations(t, 0, 0, 0)},
		{2, operation("web", "get"), durations(t)},
		{3, operation("web", "get"), durations(t, 100, 100, 100, 17)},
		{3, operation("web", "put"), durations(t, 5, 5, 5, 101, 1<<40)},
		{3, service("web"), durations(t)},
		{3, estimate.Group{Service: "web", Version: "1", Operation: "get"}, durations(t)},
	} {
		h, e := estimate.Latency(l, c.g, c.level)
		expectErr(t, fmt.Sprint("Latency of ", c.g), e, api.OK)
		if !histogram.Equal(h, c.want) {
			t.Errorf("Latency of %v at the level %d: %v, want %v", c.g, c.level, h, c.want)
		}
	}
}

// P25.4: the errors of Latency.
func TestLatencyErrors(t *testing.T) {
	full, over := []api.Trace{long(1, 1024)}, []api.Trace{long(1, 1024), trace(2, 1, record(2, 1, 9))}
	full[0].Weight, over[0].Weight = 1024, 1024
	for k, c := range []struct {
		l     []api.Trace
		g     estimate.Group
		level int
		e     api.Errno
	}{
		{full, service("api"), 1, api.OK},
		{over, service("api"), 1, api.ErrOverflow},
		{over, version("api", ""), 2, api.ErrOverflow},
		{over, operation("api", "get"), 3, api.ErrOverflow},
		{over, service("web"), 1, api.OK},
		{over, operation("api", "put"), 3, api.OK},
		{over, service("api"), 0, api.ErrKind},
		{nil, service("api"), 4, api.ErrKind},
		{full, service("api"), math.MinInt, api.ErrKind},
		{full, estimate.Group{}, math.MaxInt, api.ErrKind},
	} {
		h, e := estimate.Latency(c.l, c.g, c.level)
		expectErr(t, fmt.Sprint("Latency ", k), e, c.e)
		if e != api.OK && len(h.Buckets) > 0 {
			t.Errorf("Latency with an error: %v", h)
		}
	}
	h, _ := estimate.Latency(full, service("api"), 1)
	if !slices.Equal(h.Buckets, []histogram.Bucket{{Index: 9, Count: 1 << 20}}) {
		t.Errorf("Latency of as many values as permitted: %v", h)
	}
}

// expectCount expects that Count returns some bounds.
func expectCount(t *testing.T, r api.Retained, partition int, service string, wantLow, wantHigh int) {
	t.Helper()
	if low, high := estimate.Count(r, partition, service); low != wantLow || high != wantHigh {
		t.Errorf("Count of %s in %d: %d, %d; want %d, %d", service, partition, low, high, wantLow, wantHigh)
	}
}

// P25.5: the second example of the document.
func TestSecondExample(t *testing.T) {
	r := api.Retained{
		Traces:  []api.Trace{long(1, 3)},
		Removed: []api.Removed{{Service: "api", Spans: 10, Errors: 5}},
		Late:    []api.Late{{Spans: 2}},
	}
	expectCount(t, r, 0, "api", 11, 15)
}

// P25.5: counts of services in partitions, to which weights, errors and other services do not add anything.
func TestCount(t *testing.T) {
	second, last := 1<<24, 1<<40
	r := api.Retained{
		Traces: []api.Trace{
			trace(1, 1000, record(1, 1, 9), in("web", "", "get", record(1, 2, 9)), failed(record(1, 3, 9))),
			trace(second-1, 1, record(second-1, 1, 9)),
			trace(second, 1, in("web", "", "get", record(second, 1, 9))),
			trace(last, 1, record(last, 5, 9)),
		},
		Exchanges: []api.Exchange{{From: 1, To: 2}},
		Removed:   []api.Removed{{Partition: 0, Service: "api", Spans: 10, Errors: 3}, {Partition: 0, Service: "web", Spans: 20}, {Partition: 1, Service: "web", Spans: 40}, {Partition: 0, Service: "api", Spans: 100}, {Partition: 2, Service: "db", Spans: 1 << 40}},
		Late:      []api.Late{{Partition: 1, Spans: 41}, {Partition: 0, Spans: 2}, {Partition: 2, Spans: 1<<40 - 1}, {Partition: 0, Spans: 5}, {Partition: 3, Spans: 6}},
	}
	expectCount(t, r, 0, "api", 106, 120)
	expectCount(t, r, 0, "web", 14, 28)
	expectCount(t, r, 0, "db", 0, 7)
	expectCount(t, r, 0, "", 0, 7)
	expectCount(t, r, 1, "web", 0, 82)
	expectCount(t, r, 1, "api", 0, 41)
	expectCount(t, r, 2, "db", 1, 1<<41-1)
	expectCount(t, r, 3, "web", 0, 6)
	expectCount(t, r, 1<<16, "api", 1, 1)
	expectCount(t, r, 1<<16, "web", 0, 0)
	expectCount(t, r, -1, "api", 0, 0)
	expectCount(t, r, math.MinInt, "api", 0, 0)
	expectCount(t, r, math.MaxInt, "api", 0, 0)
	expectCount(t, api.Retained{}, 0, "api", 0, 0)
}

// some returns one of some strings.
func some(r *rand.Rand, l ...string) string { return l[r.Intn(len(l))] }

// someTraces returns a valid list of traces with the given ids and few different names.
func someTraces(r *rand.Rand, weight func() int, ids ...int) []api.Trace {
	var l []api.Trace
	for _, id := range ids {
		x := trace(id, weight())
		for k := range r.Intn(5) {
			s := in(some(r, "a", "b", "B"), some(r, "", "1", "2"), some(r, "x", "y"), record(id, 2*k+1, r.Intn(1<<r.Intn(41))))
			s.Error = r.Intn(3) == 0
			x.Spans = append(x.Spans, s)
		}
		l = append(l, x)
	}
	return l
}

// anyWeight returns a function for weights.
func anyWeight(r *rand.Rand) func() int {
	return func() int { return 1 + r.Intn(1+r.Intn(1024)) }
}

// compare compares two groups as the document says.
func compare(a, b estimate.Group) int {
	return slices.Compare([]string{a.Service, a.Version, a.Operation}, []string{b.Service, b.Version, b.Operation})
}

// groups returns the groups of all spans at a level, in order, each once.
func groups(l []api.Trace, level int) []estimate.Group {
	var all []estimate.Group
	for _, x := range l {
		for _, s := range x.Spans {
			g, _ := estimate.GroupOf(s, level)
			all = append(all, g)
		}
	}
	slices.SortFunc(all, compare)
	return slices.Compact(all)
}

// model returns the lines of a list of traces as the terms say: each group by itself, and each of its numbers by itself.
func model(l []api.Trace, level int) []estimate.Line {
	var lines []estimate.Line
	for _, g := range groups(l, level) {
		x := line(g, 0, 0, 0, 0)
		for _, t := range l {
			hasGroup := 0
			for _, s := range t.Spans {
				if of, _ := estimate.GroupOf(s, level); of != g {
					continue
				}
				hasGroup = 1
				x.Total.Spans += t.Weight
				x.Total.Duration += t.Weight * (s.End - s.Start)
				if s.Error {
					x.Total.Errors += t.Weight
				}
			}
			x.Total.Traces += hasGroup * t.Weight
		}
		lines = append(lines, x)
	}
	return lines
}

// P25.2, P25.4: random traces.
func TestModels(t *testing.T) {
	r := rand.New(rand.NewSource(1))
	for range 1000 {
		l := someTraces(r, anyWeight(r), 1, 2, 1<<20, 1<<24+r.Intn(100), 1<<40)
		expectErr(t, "Check", estimate.Check(l), api.OK)
		for _, level := range levels() {
			want := model(l, level)
			expectLines(t, fmt.Sprintf("By of %v at the level %d", l, level), by(t, l, level), want)
			for _, x := range want {
				expectLatency(t, l, x, level)
			}
		}
	}
}

// expectLatency expects that the histogram of the group of a line has the durations of all spans of the group.
func expectLatency(t *testing.T, l []api.Trace, x estimate.Line, level int) {
	t.Helper()
	var all []int
	for _, y := range l {
		for _, s := range y.Spans {
			if g, _ := estimate.GroupOf(s, level); g == x.Group {
				all = append(all, slices.Repeat([]int{span.Duration(s)}, y.Weight)...)
			}
		}
	}
	h, e := estimate.Latency(l, x.Group, level)
	expectErr(t, "Latency", e, api.OK)
	if !histogram.Equal(h, durations(t, all...)) || histogram.Total(h) != x.Total.Spans {
		t.Errorf("Latency of %v at the level %d of %v: %v", x.Group, level, l, h)
	}
	if low, high := histogram.Sum(h); x.Total.Duration < low || x.Total.Duration > high {
		t.Errorf("the duration of %v is not from %d to %d", x, low, high)
	}
}

// P25.6, P9: over all seeds, the totals of samples are 1024 times those of what was sampled.
func TestAllSeeds(t *testing.T) {
	r := rand.New(rand.NewSource(2))
	isFailed := api.Pred{Op: api.PredEqual, Field: "error", Value: api.Value{Kind: api.KindBool, Int: 1}}
	for _, usual := range []int{0, 1, 4, 10} {
		p := sampling.Policy{Rules: []sampling.Rule{{Where: isFailed, Exponent: 2}}, Default: usual}
		l := someTraces(r, func() int { return 1 }, 1, 2, 3, 5, 8, 13, 1<<30, 1<<40)
		all := map[int][]estimate.Line{}
		for seed := range 1024 {
			kept, _, e := sampling.Sample(p, seed, l)
			expectErr(t, "Sample", e, api.OK)
			expectErr(t, "Check", estimate.Check(kept), api.OK)
			for _, level := range levels() {
				all[level] = estimate.Merge(all[level], by(t, kept, level))
			}
		}
		for _, level := range levels() {
			expectLines(t, fmt.Sprint("the sums at the level ", level), all[level], times(1024, by(t, l, level)))
		}
	}
}

// P25.6: removing traces, and losing late spans, keeps the number of all spans of a service within the count.
func TestCountOfAll(t *testing.T) {
	r := rand.New(rand.NewSource(3))
	for range 500 {
		all := someTraces(r, func() int { return 1 }, 1, 2, 3, 1<<24-1, 1<<24, 1<<24+1)
		numbers := map[api.Removed]int{}
		for _, x := range all {
			for _, s := range x.Spans {
				numbers[api.Removed{Partition: x.Id >> 24, Service: s.Service}]++
			}
		}
		var left api.Retained
		late := make([]int, 2)
		for _, x := range all {
			switch partition := x.Id >> 24; r.Intn(3) {
			case 0:
				left.Traces = append(left.Traces, x)
			case 1:
				left.Removed = append(left.Removed, counts(x, partition)...)
			default:
				// The same span can be late more than once.
				late[partition] += len(x.Spans) + r.Intn(3)
			}
		}
		left.Late = []api.Late{{Partition: 0, Spans: late[0]}, {Partition: 1, Spans: late[1]}}
		for _, name := range []string{"a", "b", "B"} {
			for partition := range 2 {
				low, high := estimate.Count(left, partition, name)
				n := numbers[api.Removed{Partition: partition, Service: name}]
				if n < low || n > high || late[partition] == 0 && low != high {
					t.Errorf("Count of %s: %d, %d, but there are %d", name, low, high, n)
				}
			}
		}
	}
}

// counts counts the spans of a trace by their services.
func counts(x api.Trace, partition int) []api.Removed {
	var l []api.Removed
	for _, s := range x.Spans {
		l = append(l, api.Removed{Partition: partition, Service: s.Service, Spans: 1})
	}
	return l
}

// Arguments are neither modified nor shared with results.
func TestArgumentsStay(t *testing.T) {
	made := func() []api.Trace {
		return someTraces(rand.New(rand.NewSource(4)), func() int { return 2 }, 1, 2, 3, 4, 5)
	}
	l := made()
	estimate.Check(l)
	for _, level := range levels() {
		by(t, l, level)
		estimate.GroupOf(l[0].Spans[0], level)
		estimate.Latency(l, service("a"), level)
	}
	estimate.Count(api.Retained{Traces: l}, 0, "a")
	if !reflect.DeepEqual(l, made()) {
		t.Error("the arguments have changed")
	}
}

// P1: arguments for which nothing is specified do no harm.
func TestInvalidArguments(t *testing.T) {
	bad := []api.Span{{}, {}, {Trace: math.MinInt, Start: math.MinInt, End: math.MaxInt}, {Id: math.MaxInt, Start: math.MaxInt, End: math.MinInt}}
	lists := [][]api.Trace{{{}, {}}, {{Id: -1, Weight: -1, Spans: bad}, {Id: -1, Weight: math.MaxInt, Spans: bad}, {Weight: math.MinInt, Spans: bad}}}
	for _, l := range lists {
		estimate.Check(l)
		for level := range 5 {
			estimate.By(l, level)
			estimate.Latency(l, estimate.Group{}, level)
		}
		estimate.Count(api.Retained{Traces: l, Removed: []api.Removed{{Spans: math.MinInt}, {Spans: math.MinInt}}, Late: []api.Late{{Spans: math.MaxInt}, {Spans: math.MaxInt}}}, 0, "")
	}
	h, e := estimate.Latency([]api.Trace{trace(1, 1, record(1, 1, 9), record(1, 2, -1))}, service("api"), 1)
	expectErr(t, "Latency of a negative duration", e, api.ErrRange)
	if len(h.Buckets) > 0 {
		t.Errorf("Latency with an error: %v", h)
	}
}
