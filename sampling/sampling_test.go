package sampling_test

import (
	"fmt"
	"math"
	"math/rand"
	"reflect"
	"slices"
	"strings"
	"testing"

	"sleuth/api"
	"sleuth/attribute"
	"sleuth/checksum"
	"sleuth/sampling"
	"sleuth/span"
)

// record returns a valid span that lasts so long, and failed one with an error.
func record(trace, id, duration int) api.Span {
	return api.Span{Trace: trace, Id: id, Clock: 1, Kind: api.Server, Service: "api", Operation: "get", End: duration}
}

func failed(s api.Span) api.Span {
	s.Error = true
	return s
}

// later returns a further revision of a span.
func later(s api.Span) api.Span {
	s.Revision++
	return s
}

// trace returns a trace with the weight 1.
func trace(id int, l ...api.Span) api.Trace { return api.Trace{Id: id, Weight: 1, Spans: l} }

// weighted returns a trace with another weight.
func weighted(weight int, t api.Trace) api.Trace {
	t.Weight = weight
	return t
}

// less returns the predicate that a field is less than a number, and is one that a bool is true.
func less(field string, n int) api.Pred {
	return api.Pred{Op: api.PredLess, Field: field, Value: api.Value{Kind: api.KindInt, Int: n}}
}

func is(field string) api.Pred {
	return api.Pred{Op: api.PredEqual, Field: field, Value: api.Value{Kind: api.KindBool, Int: 1}}
}

func rule(where api.Pred, exponent int) sampling.Rule {
	return sampling.Rule{Where: where, Exponent: exponent}
}

// policy returns a policy with a default exponent and rules.
func policy(usual int, l ...sampling.Rule) sampling.Policy {
	return sampling.Policy{Rules: l, Default: usual}
}

// example is the policy of the first example of the document.
func example() sampling.Policy {
	return policy(2, rule(is("error"), 0), rule(less("duration", 100), 4))
}

// rules returns so many rules.
func rules(size int) []sampling.Rule { return make([]sampling.Rule, size) }

// withHash returns the least trace from an id on whose hash is a number modulo 1024.
func withHash(hash, from int) int {
	for checksum.Mix(0, from)%1024 != hash {
		from++
	}
	return from
}

func expectErr(t *testing.T, what string, got, want api.Errno) {
	t.Helper()
	if got != want {
		t.Errorf("%s: the error %d, want %d", what, got, want)
	}
}

func expectInt(t *testing.T, what string, got int, e api.Errno, want int, wantErr api.Errno) {
	t.Helper()
	if got != want || e != wantErr {
		t.Errorf("%s: %d, %d; want %d, %d", what, got, e, want, wantErr)
	}
}

// isSame reports whether two traces are equal. Nil and empty lists are equal.
func isSame(a, b api.Trace) bool {
	return a.Id == b.Id && a.Weight == b.Weight && slices.EqualFunc(a.Spans, b.Spans, span.Equal)
}

func expectTraces(t *testing.T, what string, got, want []api.Trace) {
	t.Helper()
	if !slices.EqualFunc(got, want, isSame) {
		t.Errorf("%s: %v, want %v", what, got, want)
	}
}

// P24.1: valid policies, and the errors of others in their order.
func TestCheck(t *testing.T) {
	bad := api.Pred{Op: 99}
	deep := api.Pred{}
	for range api.MaxDepth {
		deep = api.Pred{Op: api.PredNot, Args: []api.Pred{deep}}
	}
	for _, c := range []struct {
		p sampling.Policy
		e api.Errno
	}{
		{sampling.Policy{}, api.OK},
		{example(), api.OK},
		{policy(10, rule(is("error"), 10)), api.OK},
		{policy(0, rule(less("nothing", 5), 0)), api.OK},
		{policy(3, rules(16)...), api.OK},
		{policy(3, rules(17)...), api.ErrLimit},
		{policy(0, rule(bad, 0)), api.ErrKind},
		{policy(0, rule(api.Pred{Op: api.PredAnd}, 0)), api.ErrForm},
		{policy(0, rule(api.Pred{Op: api.PredHas}, 0)), api.ErrName},
		{policy(0, rule(deep, 0)), api.ErrDepth},
		{policy(0, rule(deep.Args[0], 0)), api.OK},
		{policy(0, rule(api.Pred{}, -1)), api.ErrRange},
		{policy(0, rule(api.Pred{}, 11)), api.ErrRange},
		{policy(0, rule(api.Pred{}, 1), rule(api.Pred{}, math.MaxInt)), api.ErrRange},
		{policy(-1), api.ErrRange},
		{policy(11), api.ErrRange},
		{policy(math.MinInt), api.ErrRange},
		{policy(math.MaxInt), api.ErrRange},
		// The errors in their order.
		{policy(-1, append(rules(16), rule(bad, -1))...), api.ErrLimit},
		{policy(-1, rule(bad, -1)), api.ErrKind},
		{policy(0, rule(api.Pred{}, -1), rule(bad, 0)), api.ErrRange},
		{policy(-1, rule(api.Pred{}, 0), rule(bad, 0)), api.ErrKind},
	} {
		expectErr(t, fmt.Sprintf("Check of %v", c.p), sampling.Check(c.p), c.e)
		if c.e == api.OK {
			continue
		}
		got, e := sampling.Exponent(c.p, trace(0))
		expectInt(t, "Exponent", got, e, 0, c.e)
		kept, gone, e := sampling.Sample(c.p, -1, []api.Trace{trace(0)})
		expectErr(t, "Sample", e, c.e)
		expectTraces(t, "Sample", append(kept, gone...), nil)
	}
	expectInt(t, "MaxRules", sampling.MaxRules, 0, 16, 0)
	expectInt(t, "MaxExponent", sampling.MaxExponent, 0, 10, 0)
	expectInt(t, "Seeds", sampling.Seeds, 0, 1024, 0)
}

// P24.1: weighted traces, and the errors of others in their order.
func TestCheckTrace(t *testing.T) {
	bad := record(7, 1, 9)
	bad.Service = ""
	alien := record(8, 1, 9)
	for _, c := range []struct {
		t api.Trace
		e api.Errno
	}{
		{trace(1), api.OK},
		{trace(1<<40, record(1<<40, 1, 9)), api.OK},
		{trace(7, record(7, 2, 9), record(7, 1, 9), record(7, 2, 9)), api.OK},
		{api.Trace{}, api.ErrRange},
		{trace(0), api.ErrRange},
		{trace(-1), api.ErrRange},
		{trace(1<<40 + 1), api.ErrRange},
		{trace(math.MinInt), api.ErrRange},
		{trace(math.MaxInt), api.ErrRange},
		{trace(7, bad), api.ErrName},
		{trace(7, alien), api.ErrConflict},
		{trace(7, record(7, 1, 9), record(7, 1, -1)), api.ErrOrder},
		{trace(7, record(7, 1, 9), record(7, 0, 9)), api.ErrRange},
		// The errors in their order.
		{weighted(0, trace(7, bad)), api.ErrRange},
		{trace(0, bad), api.ErrRange},
		{trace(7, bad, alien), api.ErrName},
		{trace(7, alien, bad), api.ErrConflict},
		{trace(8, bad), api.ErrName},
		{trace(8, record(7, 1, 9), bad), api.ErrConflict},
	} {
		expectErr(t, fmt.Sprintf("CheckTrace of %v", c.t), sampling.CheckTrace(c.t), c.e)
		if c.e == api.OK {
			continue
		}
		got, e := sampling.Exponent(example(), c.t)
		expectInt(t, fmt.Sprintf("Exponent of %v", c.t), got, e, 0, c.e)
	}
}

// P24.1: the weights are the powers of two up to 1024.
func TestWeights(t *testing.T) {
	for weight := -1100; weight <= 2100; weight++ {
		want := api.ErrRange
		for f := range 11 {
			if weight == 1<<f {
				want = api.OK
			}
		}
		expectErr(t, fmt.Sprint("CheckTrace with the weight ", weight), sampling.CheckTrace(weighted(weight, trace(7))), want)
	}
	for _, weight := range []int{math.MinInt, math.MaxInt, 1 << 62, -1 << 62} {
		expectErr(t, fmt.Sprint("CheckTrace with the weight ", weight), sampling.CheckTrace(weighted(weight, trace(7))), api.ErrRange)
	}
}

// P24.2, and the first example of the document.
func TestExponent(t *testing.T) {
	short, long := record(7, 1, 99), record(7, 2, 100)
	first := policy(5, rule(less("duration", 100), 3), rule(less("duration", 200), 7), rule(is("root"), 1))
	for _, c := range []struct {
		p    sampling.Policy
		t    api.Trace
		want int
	}{
		{example(), trace(7), 2},
		{example(), trace(7, long), 2},
		{example(), trace(7, short), 4},
		{example(), trace(7, long, short), 4},
		{example(), trace(7, failed(short)), 0},
		{example(), trace(7, short, failed(long)), 0},
		// The weight plays no part.
		{example(), weighted(1024, trace(7, short)), 4},
		{example(), weighted(8, trace(7, long)), 2},
		// Only the winners count, wherever they stand.
		{example(), trace(7, failed(long), later(long)), 2},
		{example(), trace(7, later(long), failed(long)), 2},
		{example(), trace(7, long, failed(later(long))), 0},
		{example(), trace(7, failed(record(7, 1, 5)), later(record(7, 1, 500)), record(7, 2, 5)), 4},
		// The first rule counts, not the least exponent, nor the first span.
		{first, trace(7, long), 7},
		{first, trace(7, short), 3},
		{first, trace(7, long, short), 3},
		{first, trace(7, record(7, 3, 300)), 1},
		{first, trace(7), 5},
		{policy(5, rule(api.Pred{}, 3)), trace(7, long), 3},
		{policy(5, rule(api.Pred{}, 3)), trace(7), 5},
		{policy(5, rule(api.Pred{Op: api.PredNot, Args: []api.Pred{is("error")}}, 3)), trace(7, failed(long)), 5},
		// One span must satisfy the whole predicate.
		{policy(5, rule(api.Pred{Op: api.PredAnd, Args: []api.Pred{is("error"), less("duration", 100)}}, 3)), trace(7, failed(long), short), 5},
		{policy(5, rule(api.Pred{Op: api.PredAnd, Args: []api.Pred{is("error"), less("duration", 100)}}, 3)), trace(7, long, failed(short)), 3},
		{policy(10), trace(7, failed(short)), 10},
		{policy(0, append(rules(15), rule(api.Pred{}, 9))...), trace(7, long), 0},
	} {
		got, e := sampling.Exponent(c.p, c.t)
		expectInt(t, fmt.Sprintf("Exponent of %v for %v", c.p, c.t), got, e, c.want, api.OK)
	}
}

// P24.3: Hash and Weight.
func TestHashAndWeight(t *testing.T) {
	// Word(1, 0) of layer 4 is E220A8397B1DCDAF: so is Word of 0 and what the seed 1 adds.
	step := uint64(0x9E3779B97F4A7C15)
	if got := sampling.Hash(int(step)); got != 0xE220A8397B1DCDAF/4 {
		t.Errorf("Hash: %x", got)
	}
	for _, trace := range []int{0, 1, 2, -1, 1 << 40, math.MinInt, math.MaxInt} {
		got := sampling.Hash(trace)
		expectInt(t, fmt.Sprint("Hash of ", trace), got, 0, checksum.Mix(0, trace), 0)
		if got < 0 || got >= 1<<62 {
			t.Errorf("Hash of %d: %d", trace, got)
		}
	}
	for exponent := range 11 {
		got, e := sampling.Weight(exponent)
		expectInt(t, fmt.Sprint("Weight of ", exponent), got, e, []int{1, 2, 4, 8, 16, 32, 64, 128, 256, 512, 1024}[exponent], api.OK)
	}
	for _, exponent := range []int{-1, 11, 64, math.MinInt, math.MaxInt} {
		got, e := sampling.Weight(exponent)
		expectInt(t, fmt.Sprint("Weight of ", exponent), got, e, 0, api.ErrRange)
	}
}

// P24.3, and the second example of the document.
func TestKeptExamples(t *testing.T) {
	for _, c := range []struct {
		hash, exponent int
		want           []api.Interval
	}{
		{1000, 4, []api.Interval{{From: 24, To: 88}}},
		{1000, 0, []api.Interval{{From: 0, To: 1024}}},
		{40, 4, []api.Interval{{From: 0, To: 24}, {From: 984, To: 1024}}},
		{40, 0, []api.Interval{{From: 0, To: 1024}}},
		{0, 0, []api.Interval{{From: 0, To: 1024}}},
		{0, 1, []api.Interval{{From: 0, To: 512}}},
		{512, 1, []api.Interval{{From: 512, To: 1024}}},
		{511, 1, []api.Interval{{From: 0, To: 1}, {From: 513, To: 1024}}},
		{513, 1, []api.Interval{{From: 511, To: 1023}}},
		{0, 10, []api.Interval{{From: 0, To: 1}}},
		{1, 10, []api.Interval{{From: 1023, To: 1024}}},
		{1, 9, []api.Interval{{From: 0, To: 1}, {From: 1023, To: 1024}}},
		{1023, 10, []api.Interval{{From: 1, To: 2}}},
	} {
		trace := withHash(c.hash, 1)
		got, e := sampling.Kept(trace, c.exponent)
		if !slices.Equal(got, c.want) || e != api.OK {
			t.Errorf("Kept for the hash %d and the exponent %d: %v, %d", c.hash, c.exponent, got, e)
		}
	}
}

// P24.3 and P24.5: a trace is kept for the seeds that the terms say, which are those of Kept, and the weights add up to 1024.
func TestKeep(t *testing.T) {
	traces := []int{1, 2, 1 << 40, 0, -1, math.MinInt, math.MaxInt, withHash(0, 5), withHash(1023, 5), withHash(512, 5)}
	for _, trace := range traces {
		hash := sampling.Hash(trace)
		var before []bool
		for exponent := range 11 {
			var kept []bool
			number := 0
			for seed := range 1024 {
				isKept, e := sampling.Keep(trace, seed, exponent)
				expectErr(t, "Keep", e, api.OK)
				if want := (hash%1024+seed)%1024*(1<<exponent) < 1024; isKept != want {
					t.Fatalf("Keep(%d, %d, %d): %v", trace, seed, exponent, isKept)
				}
				if isKept && exponent > 0 && !before[seed] {
					t.Errorf("the trace %d is kept with the exponent %d, but not with a lesser one", trace, exponent)
				}
				if isKept {
					number++
				}
				kept = append(kept, isKept)
			}
			weight, _ := sampling.Weight(exponent)
			expectInt(t, "the sum of the weights", number*weight, 0, 1024, 0)
			expectSeeds(t, trace, exponent, kept)
			before = kept
		}
	}
}

// expectSeeds expects that Kept returns the seeds for which a trace is kept, in intervals that do not touch.
func expectSeeds(t *testing.T, trace, exponent int, kept []bool) {
	t.Helper()
	l, e := sampling.Kept(trace, exponent)
	expectErr(t, "Kept", e, api.OK)
	isIn := make([]bool, 1024)
	for k, x := range l {
		if x.From >= x.To || k > 0 && x.From <= l[k-1].To {
			t.Errorf("Kept of %d with the exponent %d: %v", trace, exponent, l)
		}
		for seed := x.From; seed < x.To; seed++ {
			isIn[seed] = true
		}
	}
	if len(l) > 2 || !slices.Equal(isIn, kept) {
		t.Errorf("Kept of %d with the exponent %d: %v", trace, exponent, l)
	}
}

// P24.3: the errors.
func TestKeepErrors(t *testing.T) {
	for _, c := range []struct{ seed, exponent int }{{-1, 0}, {1024, 0}, {math.MinInt, 0}, {math.MaxInt, 0}, {0, -1}, {0, 11}, {5, math.MinInt}, {5, math.MaxInt}, {-1, -1}, {1024, 11}} {
		isKept, e := sampling.Keep(1, c.seed, c.exponent)
		expectErr(t, fmt.Sprint("Keep with ", c), e, api.ErrRange)
		if isKept {
			t.Errorf("Keep with %v: true", c)
		}
	}
	for _, exponent := range []int{-1, 11, 64, math.MinInt, math.MaxInt} {
		l, e := sampling.Kept(1, exponent)
		expectErr(t, fmt.Sprint("Kept with ", exponent), e, api.ErrRange)
		if len(l) > 0 {
			t.Errorf("Kept with %d: %v", exponent, l)
		}
	}
	for _, c := range []struct{ seed, exponent int }{{0, 0}, {1023, 0}} {
		isKept, e := sampling.Keep(1, c.seed, c.exponent)
		expectErr(t, fmt.Sprint("Keep with ", c), e, api.OK)
		if !isKept {
			t.Errorf("Keep with %v: false", c)
		}
	}
}

// P24.4: the errors of Sample in their order, also where no trace is kept.
func TestSampleErrors(t *testing.T) {
	bad := record(7, 1, 9)
	bad.Kind = 0
	good := []api.Trace{trace(7, record(7, 1, 9))}
	for _, c := range []struct {
		p    sampling.Policy
		seed int
		l    []api.Trace
		e    api.Errno
	}{
		{policy(-1), 0, nil, api.ErrRange},
		{policy(0, rule(api.Pred{Op: 99}, 0)), -1, []api.Trace{trace(0)}, api.ErrKind},
		{example(), -1, good, api.ErrRange},
		{example(), 1024, good, api.ErrRange},
		{example(), math.MinInt, nil, api.ErrRange},
		{example(), math.MaxInt, nil, api.ErrRange},
		{example(), -1, []api.Trace{trace(7, bad)}, api.ErrRange},
		{example(), 0, append(good, trace(7, bad), trace(0)), api.ErrKind},
		{example(), 0, append(good, trace(0), trace(7, bad)), api.ErrRange},
		{example(), 0, append(good, trace(8, record(7, 1, 9)), trace(7, bad)), api.ErrConflict},
		{example(), 0, append(good, weighted(3, trace(7))), api.ErrRange},
		{example(), 0, []api.Trace{trace(7, record(7, 2, 5), bad)}, api.ErrKind},
	} {
		kept, gone, e := sampling.Sample(c.p, c.seed, c.l)
		expectErr(t, fmt.Sprintf("Sample of %v", c.l), e, c.e)
		expectTraces(t, "Sample with an error", append(kept, gone...), nil)
	}
	kept, gone, e := sampling.Sample(example(), 1023, nil)
	expectErr(t, "Sample of nothing", e, api.OK)
	expectTraces(t, "Sample of nothing", append(kept, gone...), nil)
}

// P24.4: which traces are kept with which weights, in the order of the list.
func TestSample(t *testing.T) {
	// Those with the hash h are kept with the exponent 4 if h + 24 is less than 64 modulo 1024.
	a, b, c := withHash(1000, 1), withHash(39, 1), withHash(40, 1)
	short := func(id int) api.Trace { return trace(id, record(id, 2, 5), record(id, 1, 5), record(id, 2, 5)) }
	long := func(id int) api.Trace { return trace(id, record(id, 1, 500)) }
	l := []api.Trace{
		short(c), short(b), short(a), long(c), trace(c, failed(record(c, 1, 5))),
		weighted(64, short(a)), weighted(64, short(b)), weighted(16, short(b)), weighted(8, short(b)), weighted(512, trace(c, failed(record(c, 1, 5)))),
		short(a), weighted(2, trace(c)), weighted(4, trace(c)), weighted(8, trace(c)),
	}
	kept, gone, e := sampling.Sample(example(), 24, l)
	expectErr(t, "Sample", e, api.OK)
	expectTraces(t, "kept", kept, []api.Trace{
		weighted(16, l[1]), weighted(16, l[2]), weighted(4, l[3]), weighted(1, l[4]),
		weighted(64, l[5]), weighted(16, l[7]), weighted(16, l[8]),
		weighted(16, l[10]), weighted(4, l[11]), weighted(4, l[12]), weighted(8, l[13]),
	})
	expectTraces(t, "gone", gone, []api.Trace{l[0], l[6], l[9]})
}

// Arguments are neither modified nor shared with results.
func TestArgumentsStay(t *testing.T) {
	made := func() []api.Trace {
		var l []api.Trace
		for id := range 40 {
			s := record(id+1, 1, 100)
			s.Attrs = []api.Attr{{Key: "a", Value: api.Value{Kind: api.KindInt, Int: 1}}}
			s.Links = []api.Ref{{Trace: 1, Id: 1}}
			l = append(l, trace(id+1, record(id+1, 2, 500), s))
		}
		return l
	}
	p, l := example(), made()
	kept, gone, e := sampling.Sample(p, 5, l)
	expectErr(t, "Sample", e, api.OK)
	if len(kept) == 0 || len(gone) == 0 {
		t.Fatal("all traces have the same fate")
	}
	for _, x := range append(kept, gone...) {
		if len(x.Spans) != 2 || len(x.Spans[1].Attrs) != 1 || len(x.Spans[1].Links) != 1 {
			t.Errorf("not as it was: %v", x)
		}
		x.Spans[0].Id = 0
		x.Spans[1].Attrs[0].Key = "changed"
		x.Spans[1].Links[0].Id = 0
	}
	_, e = sampling.Exponent(p, l[0])
	expectErr(t, "Exponent", e, api.OK)
	if !reflect.DeepEqual(l, made()) || !reflect.DeepEqual(p, example()) {
		t.Error("the arguments have changed")
	}
}

// someTraces returns traces with few spans, some of them twice, and weights.
func someTraces(r *rand.Rand, size, most int) []api.Trace {
	var l []api.Trace
	for range size {
		x := weighted(1<<r.Intn(most+1), trace(1+r.Intn(1<<r.Intn(41))))
		for range r.Intn(4) {
			s := record(x.Id, 1+r.Intn(2), r.Intn(300))
			s.Revision, s.Error = r.Intn(2), r.Intn(3) == 0
			x.Spans = append(x.Spans, s)
		}
		l = append(l, x)
	}
	return l
}

// somePolicy returns a policy with few rules.
func somePolicy(r *rand.Rand) sampling.Policy {
	p := policy(r.Intn(11))
	for range r.Intn(4) {
		where := []api.Pred{{}, is("error"), less("duration", 50*r.Intn(5)), less("id", 2)}[r.Intn(4)]
		p.Rules = append(p.Rules, rule(where, r.Intn(11)))
	}
	return p
}

// model returns what Sample should return, as the terms say.
func model(p sampling.Policy, seed int, l []api.Trace) (kept, gone []api.Trace) {
	for _, x := range l {
		exponent := p.Default
		for _, r := range slices.Backward(p.Rules) {
			isMet := func(s api.Span) bool { return attribute.Holds(r.Where, span.View{Span: s}) }
			if slices.ContainsFunc(span.Winners(x.Spans), isMet) {
				exponent = r.Exponent
			}
		}
		weight := max(1<<exponent, x.Weight)
		if (checksum.Mix(0, x.Id)%1024+seed)%1024 < 1024/weight {
			kept = append(kept, weighted(weight, x))
		} else {
			gone = append(gone, x)
		}
	}
	return kept, gone
}

// sampled returns the traces that are kept, and expects no error.
func sampled(t *testing.T, p sampling.Policy, seed int, l []api.Trace) []api.Trace {
	t.Helper()
	kept, _, e := sampling.Sample(p, seed, l)
	expectErr(t, "Sample", e, api.OK)
	return kept
}

// P24.2 and P24.4: random policies and traces.
func TestModels(t *testing.T) {
	r := rand.New(rand.NewSource(1))
	for range 1000 {
		p, seed, l := somePolicy(r), r.Intn(1024), someTraces(r, 8, 10)
		kept, gone, e := sampling.Sample(p, seed, l)
		wantKept, wantGone := model(p, seed, l)
		what := fmt.Sprintf("Sample with %v and the seed %d of %v", p, seed, l)
		expectErr(t, what, e, api.OK)
		expectTraces(t, what, kept, wantKept)
		expectTraces(t, what, gone, wantGone)
	}
}

// P24.5: sampling once more changes nothing, the order of two policies makes no difference, and exponents 0 keep everything.
func TestSampleAgain(t *testing.T) {
	r := rand.New(rand.NewSource(2))
	for range 500 {
		p, q, seed, l := somePolicy(r), somePolicy(r), r.Intn(1024), someTraces(r, 8, 1)
		once := sampled(t, p, seed, l)
		kept, gone, e := sampling.Sample(p, seed, once)
		expectErr(t, "Sample", e, api.OK)
		expectTraces(t, "kept of what was kept", kept, once)
		expectTraces(t, "gone of what was kept", gone, nil)
		expectTraces(t, "two policies", sampled(t, q, seed, once), sampled(t, p, seed, sampled(t, q, seed, l)))
	}
	l := someTraces(r, 50, 0)
	for _, p := range []sampling.Policy{{}, policy(0, rule(is("error"), 0), rule(less("duration", 100), 0))} {
		for _, seed := range []int{0, 1, 512, 1023} {
			kept, gone, e := sampling.Sample(p, seed, l)
			expectErr(t, "Sample", e, api.OK)
			expectTraces(t, "kept with the exponent 0", kept, l)
			expectTraces(t, "gone with the exponent 0", gone, nil)
		}
	}
}

// P24.5, P9 and P10: over all seeds, the weights of each trace add up to 1024, whichever other traces are sampled with it, and in whatever order its spans are.
func TestAllSeeds(t *testing.T) {
	r := rand.New(rand.NewSource(3))
	for range 4 {
		p, l := somePolicy(r), someTraces(r, 8, 0)
		var mixed []api.Trace
		for _, k := range r.Perm(len(l)) {
			x := l[k]
			x.Spans = slices.Clone(x.Spans)
			slices.Reverse(x.Spans)
			mixed = append(mixed, x)
		}
		sums := map[int]int{}
		for seed := range 1024 {
			var both []string
			for _, list := range [][]api.Trace{l, mixed} {
				var keys []string
				for _, x := range sampled(t, p, seed, list) {
					sums[x.Id] += x.Weight
					keys = append(keys, fmt.Sprint(x.Id, " ", x.Weight))
				}
				slices.Sort(keys)
				both = append(both, strings.Join(keys, ", "))
			}
			if both[0] != both[1] {
				t.Errorf("kept: %s, in another order: %s", both[0], both[1])
			}
		}
		times := map[int]int{}
		for _, x := range l {
			times[x.Id]++
		}
		for id, n := range times {
			expectInt(t, fmt.Sprint("the sum of the weights of ", id), sums[id], 0, 2*1024*n, 0)
		}
	}
}

// P1: arguments for which nothing is specified do no harm.
func TestInvalidArguments(t *testing.T) {
	bad := api.Trace{Id: -5, Weight: -5, Spans: []api.Span{{}, {Trace: math.MinInt, Id: math.MaxInt, Start: math.MinInt, End: math.MaxInt}}}
	p := policy(math.MaxInt, rule(api.Pred{Op: api.PredAnd, Args: []api.Pred{{Op: -1}}}, math.MinInt))
	for _, q := range []sampling.Policy{p, {}, example()} {
		sampling.Check(q)
		for _, x := range []api.Trace{bad, {}, trace(1)} {
			sampling.CheckTrace(x)
			sampling.Exponent(q, x)
			sampling.Sample(q, math.MinInt, []api.Trace{x, x})
			sampling.Sample(q, 0, []api.Trace{x, x})
		}
	}
}
