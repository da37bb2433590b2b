package partition_test

import (
	"fmt"
	"math"
	"math/rand"
	"reflect"
	"slices"
	"testing"

	"sleuth/api"
	"sleuth/block"
	"sleuth/checksum"
	"sleuth/encoding"
	"sleuth/partition"
	"sleuth/span"
)

// P31.6: records, winners and traces across blocks.
func TestRecords(t *testing.T) {
	a, b, c := record(0, 1), record(0, 2), record(1, 1)
	p := made(t, []api.Span{revised(a, 1), c}, []api.Span{b, a}, []api.Span{revised(b, 2)}, []api.Span{revised(b, 1)})
	expectSpans(t, "Records", p.Records(), []api.Span{a, revised(a, 1), b, revised(b, 1), revised(b, 2), c})
	expectSpans(t, "Spans", p.Spans(), []api.Span{revised(a, 1), revised(b, 2), c})
	want := []api.Trace{
		{Id: first, Weight: 1, Spans: []api.Span{revised(a, 1), revised(b, 2)}},
		{Id: first + 1, Weight: 1, Spans: []api.Span{c}},
	}
	if got := p.Traces(); !reflect.DeepEqual(got, want) {
		t.Errorf("Traces: %v, want %v", got, want)
	}
	if q := made(t); len(q.Records()) != 0 || len(q.Spans()) != 0 || len(q.Traces()) != 0 {
		t.Error("an empty partition has records")
	}
}

// P31.6: of two records with the same revision, the greater one wins, in whichever block it is.
func TestWinners(t *testing.T) {
	a, greater := record(0, 1), record(0, 1)
	greater.Parent = 7
	for _, lists := range [][][]api.Span{{{a}, {greater}}, {{greater}, {a}}, {{a, greater}}} {
		expectSpans(t, "Spans", made(t, lists...).Spans(), []api.Span{greater})
	}
}

// P31.6: the winners of some slots that satisfy a predicate.
func TestScan(t *testing.T) {
	slot := 3 << api.PartitionBits
	a, b, c, d := record(0, 1), failed(record(0, 2)), record(1<<api.SlotBits, 1), record(15<<api.SlotBits+5, 1)
	p := made(t, []api.Span{d, revised(failed(c), 0)}, []api.Span{revised(c, 1), a}, []api.Span{b})
	isFailed := api.Pred{Op: api.PredEqual, Field: "error", Value: api.Value{Kind: api.KindBool, Int: 1}}
	for what, r := range map[string]struct {
		slots api.Interval
		where api.Pred
		want  []api.Span
	}{
		"all":                   {api.Interval{From: 0, To: api.MaxSlot + 1}, api.Pred{}, []api.Span{a, b, revised(c, 1), d}},
		"exactly all":           {api.Interval{From: slot, To: slot + 16}, api.Pred{}, []api.Span{a, b, revised(c, 1), d}},
		"the first slot":        {api.Interval{From: slot, To: slot + 1}, api.Pred{}, []api.Span{a, b}},
		"the second slot":       {api.Interval{From: slot + 1, To: slot + 2}, api.Pred{}, []api.Span{revised(c, 1)}},
		"two slots":             {api.Interval{From: slot - 5, To: slot + 2}, api.Pred{}, []api.Span{a, b, revised(c, 1)}},
		"without the first":     {api.Interval{From: slot + 1, To: slot + 15}, api.Pred{}, []api.Span{revised(c, 1)}},
		"the last slot":         {api.Interval{From: slot + 15, To: math.MaxInt}, api.Pred{}, []api.Span{d}},
		"an empty interval":     {api.Interval{From: slot, To: slot}, api.Pred{}, nil},
		"a backward interval":   {api.Interval{From: slot + 2, To: slot}, api.Pred{}, nil},
		"slots between":         {api.Interval{From: slot + 2, To: slot + 15}, api.Pred{}, nil},
		"failed winners":        {api.Interval{From: math.MinInt, To: math.MaxInt}, isFailed, []api.Span{b}},
		"winners that did not":  {api.Interval{From: slot, To: slot + 16}, api.Pred{Op: api.PredNot, Args: []api.Pred{isFailed}}, []api.Span{a, revised(c, 1), d}},
		"failed in another one": {api.Interval{From: slot + 1, To: slot + 16}, isFailed, nil},
	} {
		expectSpans(t, what, p.Scan(r.slots, r.where), r.want)
	}
}

// P1: Scan for a predicate that is not valid comes to an end.
func TestScanInvalid(t *testing.T) {
	p := made(t, numbered(3))
	for _, where := range []api.Pred{{Op: 99}, {Op: api.PredNot}, {Op: api.PredAnd}, {Op: api.PredPrefix}} {
		p.Scan(api.Interval{From: 0, To: api.MaxSlot}, where)
	}
}

// P31.7: the winners and errors of each service.
func TestCount(t *testing.T) {
	p := made(t,
		[]api.Span{in("web", record(0, 1)), failed(in("web", record(0, 2))), in("db", record(0, 3))},
		[]api.Span{failed(in("api", record(1, 1))), failed(in("api", record(1, 2)))},
		// Later records of spans that have had another service, or an error.
		[]api.Span{revised(in("web", record(1, 2)), 1), revised(in("app", record(0, 3)), 1)},
	)
	want := []api.Removed{
		{Partition: 3, Service: "api", Spans: 1, Errors: 1},
		{Partition: 3, Service: "app", Spans: 1},
		{Partition: 3, Service: "web", Spans: 3, Errors: 1},
	}
	if got := p.Count(); !slices.Equal(got, want) {
		t.Errorf("Count: %v, want %v", got, want)
	}
	if got := made(t).Count(); len(got) != 0 {
		t.Errorf("Count of an empty partition: %v", got)
	}
}

// P31.7: the digest is the last link of the chain of the records.
func TestDigest(t *testing.T) {
	a, b, c := record(0, 1), record(0, 2), record(1, 1)
	if got := made(t).Digest(); got != 0 {
		t.Errorf("Digest of an empty partition: %x", got)
	}
	link := uint32(0)
	for k, s := range []api.Span{a, b, revised(b, 1), c} {
		link = checksum.Link(link, encoding.EncodeSpan(s))
		l := []api.Span{c, revised(b, 1), b, a}[3-k:]
		if got := made(t, l).Digest(); got != link {
			t.Errorf("Digest of %d records: %x, want %x", k+1, got, link)
		}
	}
	if got := made(t, []api.Span{c, a}, []api.Span{revised(b, 1)}, []api.Span{b}).Digest(); got != link {
		t.Errorf("Digest of three blocks: %x, want %x", got, link)
	}
	if four, _ := partition.New(4); four.Digest() != 0 || sealed(made(t, []api.Span{a})).Digest() != made(t, []api.Span{a}).Digest() {
		t.Error("the digest depends on more than the records")
	}
}

// P31.2, P31.6, contract: arguments stay, and results are new.
func TestIndependence(t *testing.T) {
	a := record(0, 1)
	a.Attrs, a.Links = []api.Attr{{Key: "a", Value: api.Value{Kind: api.KindInt, Int: 1}}}, []api.Ref{{Trace: 1, Id: 1}}
	l := []api.Span{record(0, 2), a}
	p := made(t, l, []api.Span{record(0, 3)})
	form := p.Encode()
	if l[0].Id != 2 {
		t.Errorf("Insert has changed its argument: %v", l)
	}
	l[1].Attrs[0].Key, l[1].Links[0].Id = "other", 99
	for _, got := range [][]api.Span{p.Records(), p.Spans(), p.Traces()[0].Spans, p.Scan(api.Interval{From: 0, To: api.MaxSlot}, api.Pred{})} {
		got[0].Attrs[0].Key, got[0].Links[0].Id, got[1].Service = "other", 99, "other"
	}
	blocks := p.Blocks()
	blocks[0], blocks[1] = nil, nil
	rest, e := p.Without(nil)
	expectErr(t, "Without", e, api.OK)
	expectInserted(t, rest, []api.Span{record(9, 9)}, 1)
	if p.Encode() != form {
		t.Error("the partition has changed")
	}
}

// P31.10: records, spans and the digest depend only on which records were inserted.
func TestArrival(t *testing.T) {
	rng := rand.New(rand.NewSource(31))
	for round := range 200 {
		l := random(rng, 1+round%30)
		p, q := made(t), made(t)
		insertParts(t, rng, p, l)
		rng.Shuffle(len(l), func(i, j int) { l[i], l[j] = l[j], l[i] })
		insertParts(t, rng, q, append(l, l[:len(l)/2]...))
		expectModel(t, p, l)
		if !p.Equal(q) || p.Digest() != q.Digest() {
			t.Fatalf("the arrival of %v matters", l)
		}
		expectSpans(t, "Spans", p.Spans(), q.Spans())
		expectCompacted(t, rng, p)
		expectModel(t, p, l)
	}
}

// insertParts inserts records in several parts, each of which overlaps with the next one.
func insertParts(t *testing.T, rng *rand.Rand, p *partition.Partition, l []api.Span) {
	t.Helper()
	for from := 0; from < len(l); {
		to := min(len(l), from+1+rng.Intn(8))
		before := len(p.Records())
		n, e := p.Insert(l[max(0, from-2):to])
		if e != api.OK || len(p.Records()) != before+n {
			t.Fatalf("Insert: %d, %d", n, e)
		}
		from = to
	}
}

// expectModel expects that a partition has these records, and what follows from them.
func expectModel(t *testing.T, p *partition.Partition, l []api.Span) {
	t.Helper()
	winners := span.Winners(l)
	expectSpans(t, "Records", p.Records(), span.Set(l))
	expectSpans(t, "Spans", p.Spans(), winners)
	traces := p.Traces()
	if len(traces) != len(span.Traces(l)) {
		t.Fatalf("%d traces", len(traces))
	}
	for k, id := range span.Traces(l) {
		if traces[k].Id != id || traces[k].Weight != 1 {
			t.Fatalf("Traces: %v", traces)
		}
		expectSpans(t, fmt.Sprint("the trace ", id), traces[k].Spans, span.Of(l, id))
	}
	spans, errors := 0, 0
	for _, c := range p.Count() {
		spans, errors = spans+c.Spans, errors+c.Errors
	}
	if spans != len(winners) || errors != len(span.Filter(api.Pred{Op: api.PredEqual, Field: "error", Value: api.Value{Kind: api.KindBool, Int: 1}}, winners)) {
		t.Fatalf("Count: %v", p.Count())
	}
}

// expectCompacted expects that Replace changes neither records nor the digest, whichever blocks it merges.
func expectCompacted(t *testing.T, rng *rand.Rand, p *partition.Partition) {
	t.Helper()
	digest := p.Digest()
	for len(p.Blocks()) > 1 {
		from := rng.Intn(len(p.Blocks()) - 1)
		merged, e := block.Merge(p.Blocks()[from], p.Blocks()[from+1])
		expectErr(t, "block.Merge", e, api.OK)
		expectErr(t, "Replace", p.Replace(from, from+2, merged), api.OK)
		if p.Digest() != digest {
			t.Fatal("Replace has changed the digest")
		}
	}
}

// P31.10: merging is commutative, scans add up, and so do the counts of what is removed and of the rest.
func TestParts(t *testing.T) {
	rng := rand.New(rand.NewSource(10))
	slot := 3 << api.PartitionBits
	for round := range 200 {
		l, other := random(rng, 1+round%30), random(rng, rng.Intn(20))
		p, o := made(t, l), made(t, other)
		left, right := p.Clone(), o.Clone()
		left.Merge(o)
		right.Merge(p)
		if !left.Equal(right) || left.Digest() != right.Digest() {
			t.Fatal("Merge is not commutative")
		}
		expectModel(t, left, slices.Concat(l, other))
		where := api.Pred{Op: api.PredEqual, Field: "service", Value: api.Value{Kind: api.KindString, Text: "db"}}
		at := slot + rng.Intn(4)
		below, above := p.Scan(api.Interval{From: 0, To: at}, where), p.Scan(api.Interval{From: at, To: api.MaxSlot}, where)
		expectSpans(t, "two scans", slices.Concat(below, above), p.Scan(api.Interval{From: 0, To: api.MaxSlot}, where))
		expectSpans(t, "a scan", slices.Concat(below, above), span.Filter(where, span.Winners(l)))
		expectCounts(t, rng, p, l)
	}
}

// expectCounts expects that the counts of some traces and of all others add up.
func expectCounts(t *testing.T, rng *rand.Rand, p *partition.Partition, l []api.Span) {
	t.Helper()
	var removed, kept []int
	for _, trace := range span.Traces(l) {
		if rng.Intn(2) == 0 {
			removed = append(removed, trace)
		} else {
			kept = append(kept, trace)
		}
	}
	rest, e := p.Without(removed)
	expectErr(t, "Without", e, api.OK)
	gone, e := p.Without(kept)
	expectErr(t, "Without", e, api.OK)
	total := map[string]api.Removed{}
	for _, c := range slices.Concat(rest.Count(), gone.Count()) {
		old := total[c.Service]
		total[c.Service] = api.Removed{Partition: 3, Service: c.Service, Spans: old.Spans + c.Spans, Errors: old.Errors + c.Errors}
	}
	for _, c := range p.Count() {
		if total[c.Service] != c {
			t.Fatalf("Count of %s: %v, but the parts are %v", c.Service, c, total[c.Service])
		}
	}
	if len(total) != len(p.Count()) {
		t.Fatalf("Count: %v, but the parts are %v", p.Count(), total)
	}
}
