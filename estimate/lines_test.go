package estimate_test

import (
	"fmt"
	"math"
	"math/rand"
	"slices"
	"testing"

	"sleuth/estimate"
)

// times returns lines with multiplied totals.
func times(n int, l []estimate.Line) []estimate.Line {
	var all []estimate.Line
	for _, x := range l {
		all = append(all, line(x.Group, n*x.Total.Spans, n*x.Total.Errors, n*x.Total.Duration, n*x.Total.Traces))
	}
	return all
}

// lines are some lines in order.
func lines() []estimate.Line {
	return []estimate.Line{
		line(service(""), 5, 0, 30, 1),
		line(service("api"), 1, 2, 50, 4),
		line(operation("api", "get"), 0, 0, 0, 0),
		line(version("api", "1"), 10, 20, 30, 40),
		line(estimate.Group{Service: "api", Version: "1", Operation: "get"}, 7, 7, 70, 7),
		line(service("db"), 3, 0, 50, 3),
	}
}

// P25.3: sums of lines in order.
func TestMerge(t *testing.T) {
	l := lines()
	a, b := []estimate.Line{l[0], l[2], l[3], l[5]}, []estimate.Line{l[1], l[3], l[4]}
	want := []estimate.Line{l[0], l[1], l[2], line(l[3].Group, 20, 40, 60, 80), l[4], l[5]}
	expectLines(t, "Merge", estimate.Merge(a, b), want)
	expectLines(t, "Merge", estimate.Merge(b, a), want)
	expectLines(t, "Merge with nothing", estimate.Merge(l, nil), l)
	expectLines(t, "Merge of nothing", estimate.Merge([]estimate.Line{}, l), l)
	expectLines(t, "Merge of nothing with nothing", estimate.Merge(nil, []estimate.Line{}), nil)
	expectLines(t, "Merge with itself", estimate.Merge(l, l), times(2, l))
	great := []estimate.Line{line(service("a"), 1<<61, 1<<61, 1<<61, 1<<61)}
	expectLines(t, "Merge of great numbers", estimate.Merge(great, great), []estimate.Line{line(service("a"), 1<<62, 1<<62, 1<<62, 1<<62)})
}

// P25.3: the lines of groups, and the sums.
func TestFindAndSum(t *testing.T) {
	l := lines()
	for _, x := range l {
		expectTotal(t, fmt.Sprint("Find of ", x.Group), estimate.Find(l, x.Group), x.Total)
	}
	for _, g := range []estimate.Group{service("web"), version("api", "2"), operation("api", "put"), operation("db", "get"), {Service: "api", Version: "get"}} {
		expectTotal(t, fmt.Sprint("Find of ", g), estimate.Find(l, g), estimate.Total{})
	}
	expectTotal(t, "Find in nothing", estimate.Find(nil, service("")), estimate.Total{})
	expectTotal(t, "Sum", estimate.Sum(l), estimate.Total{Spans: 26, Errors: 29, Duration: 230, Traces: 55})
	expectTotal(t, "Sum of nothing", estimate.Sum(nil), estimate.Total{})
	great := line(service("a"), 1<<61, 1<<61, 1<<61, 1<<61)
	expectTotal(t, "Sum of great numbers", estimate.Sum([]estimate.Line{great, line(service("b"), 1<<61-1, 5, 1<<61, 0)}), estimate.Total{Spans: 1<<62 - 1, Errors: 1<<61 + 5, Duration: 1 << 62, Traces: 1 << 61})
}

// P25.3: the lines with the greatest durations, of equal ones the first ones.
func TestTop(t *testing.T) {
	l := lines()
	ranked := []estimate.Line{l[4], l[1], l[5], l[0], l[3], l[2]}
	for n := range 9 {
		expectLines(t, fmt.Sprint("Top ", n), estimate.Top(l, n), ranked[:min(n, 6)])
	}
	expectLines(t, "Top of the greatest int", estimate.Top(l, math.MaxInt), ranked)
	for _, n := range []int{-1, -6, math.MinInt} {
		expectLines(t, fmt.Sprint("Top ", n), estimate.Top(l, n), nil)
	}
	for _, n := range []int{-1, 0, 1, math.MaxInt} {
		expectLines(t, "Top of nothing", estimate.Top(nil, n), nil)
	}
	var equal []estimate.Line
	for k := range 100 {
		equal = append(equal, line(service(fmt.Sprintf("s%02d", k)), 100-k, k, k/50, 0))
	}
	expectLines(t, "Top of many", estimate.Top(equal, 60), slices.Concat(equal[50:], equal[:10]))
}

// P25.3: equal lists, and lists that differ in one place.
func TestEqual(t *testing.T) {
	l := lines()
	changes := []func(x *estimate.Line){
		func(x *estimate.Line) { x.Group.Service += "x" },
		func(x *estimate.Line) { x.Group.Version += "x" },
		func(x *estimate.Line) { x.Group.Operation += "x" },
		func(x *estimate.Line) { x.Total.Spans++ },
		func(x *estimate.Line) { x.Total.Errors++ },
		func(x *estimate.Line) { x.Total.Duration++ },
		func(x *estimate.Line) { x.Total.Traces++ },
	}
	for k := range l {
		for _, change := range changes {
			other := lines()
			change(&other[k])
			expectEqual(t, l, other, false)
		}
	}
	expectEqual(t, l, lines(), true)
	expectEqual(t, nil, []estimate.Line{}, true)
	expectEqual(t, nil, l, false)
	expectEqual(t, l[:5], l, false)
	expectEqual(t, l[1:], l, false)
	expectEqual(t, []estimate.Line{{}}, nil, false)
}

// expectEqual expects that Equal reports something, in both directions.
func expectEqual(t *testing.T, a, b []estimate.Line, want bool) {
	t.Helper()
	if estimate.Equal(a, b) != want || estimate.Equal(b, a) != want {
		t.Errorf("Equal of %v and %v is not %v", a, b, want)
	}
}

// P25.6, P8: the lines of two lists are, merged, those of both together, and multiplied weights multiply totals.
func TestParts(t *testing.T) {
	r := rand.New(rand.NewSource(5))
	for range 500 {
		all := someTraces(r, func() int { return 1 + r.Intn(100) }, 1, 2, 3, 4, 5, 6, 1<<40)
		parts := make([][]estimate.Line, 3)
		for _, level := range levels() {
			lists := slices.Repeat([][]int{nil}, 3)
			for k := range all {
				part := r.Intn(3)
				lists[part] = append(lists[part], k)
			}
			for part, l := range lists {
				list := slices.Clone(all[:0:0])
				for _, k := range l {
					list = append(list, all[k])
				}
				parts[part] = by(t, list, level)
			}
			want := by(t, all, level)
			expectLines(t, "the parts", estimate.Merge(estimate.Merge(parts[0], parts[1]), parts[2]), want)
			expectLines(t, "the parts in another order", estimate.Merge(parts[2], estimate.Merge(parts[1], parts[0])), want)
			heavy := slices.Clone(all)
			for k := range heavy {
				heavy[k].Weight *= 10
			}
			expectLines(t, "multiplied weights", by(t, heavy, level), times(10, want))
		}
	}
}

// P25.6, P7: versions and operations refine services, but for the traces.
func TestVersionsRefineServices(t *testing.T) {
	r := rand.New(rand.NewSource(6))
	fewer := 0
	for range 500 {
		l := someTraces(r, anyWeight(r), 1, 2, 3)
		services := by(t, l, estimate.ByService)
		for _, level := range []int{estimate.ByVersion, estimate.ByOperation} {
			var summed []estimate.Line
			for _, x := range by(t, l, level) {
				x.Group = service(x.Group.Service)
				summed = estimate.Merge(summed, []estimate.Line{x})
			}
			for k := range summed {
				traces := services[k].Total.Traces
				if traces > summed[k].Total.Traces {
					t.Errorf("%d traces of %v, but the sum is %v", traces, services[k], summed[k])
				}
				if traces < summed[k].Total.Traces {
					fewer++
				}
				summed[k].Total.Traces = traces
			}
			expectLines(t, "the sums", summed, services)
			if a, b := estimate.Sum(summed), estimate.Sum(services); a != b {
				t.Errorf("Sum: %v, %v", a, b)
			}
		}
	}
	if fewer == 0 {
		t.Error("no trace has two versions of a service")
	}
}

// Arguments are neither modified nor shared with results.
func TestLinesStay(t *testing.T) {
	l := lines()
	merged, top := estimate.Merge(l, nil), estimate.Top(l, 6)
	merged[0].Total.Spans, top[0].Total.Spans = 99, 99
	merged = append(merged[:1], merged[5])
	top = append(top[:1], top[5])
	expectLines(t, "the argument", l, lines())
	estimate.Merge(l, l)
	estimate.Find(l, service("api"))
	estimate.Sum(l)
	estimate.Top(l, 2)
	expectLines(t, "the argument", l, lines())
}

// P1: lines for which nothing is specified do no harm.
func TestInvalidLines(t *testing.T) {
	l := []estimate.Line{line(service("b"), math.MinInt, -1, math.MaxInt, 0), line(service("b"), math.MinInt, -1, math.MaxInt, 0), line(service("a"), 0, 0, math.MinInt, 0)}
	estimate.Merge(l, l)
	estimate.Find(l, service("b"))
	estimate.Sum(l)
	estimate.Equal(l, lines())
	for n := range 5 {
		estimate.Top(l, n)
	}
}
