package store_test

import (
	"fmt"
	"math"
	"slices"
	"testing"

	"sleuth/api"
	"sleuth/compaction"
	"sleuth/retention"
	"sleuth/sampling"
	"sleuth/span"
	"sleuth/store"
)

// P35.4: which fragments were committed.
func TestHas(t *testing.T) {
	s := opened(t, empty(t), ages(0, 0))
	stored(t, s, api.Fragment{Agent: 3, Seq: 5}, api.Fragment{Agent: 5, Seq: 4}, api.Fragment{Agent: api.MaxSmall, Seq: api.MaxSmall}, api.Fragment{Agent: 1})
	has := map[[2]int]bool{{3, 5}: true, {5, 4}: true, {api.MaxSmall, api.MaxSmall}: true, {1, 0}: true}
	for _, agent := range []int{-1, 0, 1, 3, 4, 5, api.MaxSmall, math.MinInt, math.MaxInt} {
		for _, seq := range []int{-1, 0, 3, 4, 5, api.MaxSmall, math.MaxInt} {
			if got := s.Has(agent, seq); got != has[[2]int{agent, seq}] {
				t.Errorf("Has of %d %d: %v", agent, seq, got)
			}
		}
	}
}

// P35.4: the traces with their weights, all exchanges, and what was removed or late.
func TestRetained(t *testing.T) {
	p := retention.Policy{Full: 1, Sampled: 9, Sampling: sampling.Policy{Default: 2}, Seed: 5}
	d := empty(t)
	s := opened(t, d, p)
	k, _ := retention.New(p)
	var exchanges []api.Exchange
	for seq := range 10 {
		f := parcel(seq)
		for n := range 8 {
			f.Spans = append(f.Spans, record(at(0, 1+8*seq+n), 1), revised(record(at(0, 1+8*seq+n), 1), n%2))
		}
		f.Exchanges = []api.Exchange{exchange(10-seq, 1), exchange(1, 2), exchange(1+seq%3, 2), exchange(1, 2)}
		exchanges = append(exchanges, f.Exchanges...)
		stored(t, s, f)
		k.Add(f.Spans)
	}
	removed, _ := k.Apply(20)
	applied(t, s, 20)
	committed(t, s, 0, 0, 0, removed)
	late, _ := k.Add([]api.Span{record(at(0, 999), 1), record(at(1, 1), 1)})
	waiting(t, s, parcel(10, record(at(0, 999), 1), record(at(1, 1), 1)))
	committed(t, s, 1, 0, late, 0)
	if removed == 0 || removed == 80 || late != 1 {
		t.Fatalf("removed: %d, late: %d", removed, late)
	}
	slices.SortFunc(exchanges, func(a, b api.Exchange) int {
		return slices.Compare([]int{a.From, a.To}, []int{b.From, b.To})
	})
	exchanges = slices.Compact(exchanges)
	for range 2 {
		got := s.Retained()
		if !slices.EqualFunc(got.Traces, k.Traces(), isSame) || !slices.EqualFunc(s.Traces(), k.Traces(), isSame) {
			t.Errorf("Traces: %v, want %v", got.Traces, k.Traces())
		}
		if !slices.Equal(got.Exchanges, exchanges) || !slices.Equal(s.Exchanges(), exchanges) {
			t.Errorf("Exchanges: %v, want %v", got.Exchanges, exchanges)
		}
		if !slices.Equal(got.Removed, k.Removed()) || !slices.Equal(got.Late, k.Late()) || s.Now() != 20 {
			t.Errorf("Removed: %v, Late: %v, now %d", got.Removed, got.Late, s.Now())
		}
		expectRecords(t, "Retained", s, k.Records()...)
		s = opened(t, d, p)
	}
}

// P35.4: exchanges are in order by all of their fields, and retention does not remove them.
func TestExchanges(t *testing.T) {
	want := []api.Exchange{
		{From: 1, To: 1, Sent: 5, Received: 5, Least: 5},
		{From: 1, To: 2, Sent: -9, Received: 7, Least: 1},
		{From: 1, To: 2, Sent: 3, Received: -7, Least: 1},
		{From: 1, To: 2, Sent: 3, Received: 2, Least: 0},
		{From: 1, To: 2, Sent: 3, Received: 2, Least: 8},
		{From: 2, To: 1, Sent: 0, Received: 0, Least: 0},
	}
	s := opened(t, empty(t), ages(0, 0))
	for k := range want {
		f := parcel(k)
		f.Exchanges = []api.Exchange{want[len(want)-1-k], want[k]}
		stored(t, s, f)
	}
	applied(t, s, api.MaxSlot)
	committed(t, s, 0, 0, 0, 0)
	if got := s.Exchanges(); !slices.Equal(got, want) {
		t.Errorf("Exchanges: %v, want %v", got, want)
	}
}

// P35.5: the spans of some slots that satisfy a predicate.
func TestScan(t *testing.T) {
	s := opened(t, empty(t), ages(9, 9))
	var all []api.Span
	for n := range 60 {
		x := record(n%40<<api.SlotBits+1+n%7, 1+n/40)
		x.Service, x.Error = []string{"api", "db", "web"}[n%3], n%5 == 0
		all = append(all, x)
		// The later record is the winner, though it came first.
		late := revised(x, 1)
		late.Operation = "put"
		if n%4 == 0 {
			all = append(all, late)
			stored(t, s, parcel(100+n, late))
		}
		stored(t, s, parcel(n, x))
	}
	winners := span.Winners(all)
	isDb := api.Pred{Op: api.PredEqual, Field: "service", Value: api.Value{Kind: api.KindString, Text: "db"}}
	isPut := api.Pred{Op: api.PredEqual, Field: "operation", Value: api.Value{Kind: api.KindString, Text: "put"}}
	for _, where := range []api.Pred{isEverything(), isDb, isPut, {Op: api.PredNot, Args: []api.Pred{isDb}}, {Op: api.PredOr}} {
		for _, c := range [][2]int{{0, 0}, {0, 1}, {0, 1 << 20}, {3, 9}, {15, 17}, {16, 32}, {39, 40}, {40, 99}, {9, 3}, {-5, 2}, {math.MinInt, math.MaxInt}} {
			slots := api.Interval{From: c[0], To: c[1]}
			var want []api.Span
			for _, x := range winners {
				if slot := x.Trace >> api.SlotBits; slots.From <= slot && slot < slots.To && span.Holds(where, x) {
					want = append(want, x)
				}
			}
			expectSpans(t, fmt.Sprintf("Scan of %v, %v", slots, where), s.Scan(slots, where), want)
		}
	}
	// What is no predicate ends as well.
	s.Scan(always(), api.Pred{Op: 99})
	// What was removed is not found any longer.
	applied(t, s, first(10))
	committed(t, s, 0, 0, 0, 52)
	isGone := func(x api.Span) bool { return x.Trace < at(2, 0) }
	expectSpans(t, "Scan behind retention", s.Scan(always(), isEverything()), slices.DeleteFunc(winners, isGone))
}

// P35.6: the partitions that have records.
func TestPartitions(t *testing.T) {
	s := opened(t, empty(t), ages(3, 3))
	a, b, c := record(at(65536, 0), 1), record(at(0, 1), 1), record(at(7, 1), 1)
	stored(t, s, parcel(0, a, revised(b, 2), c), parcel(1, b))
	expectRecords(t, "three", s, a, b, revised(b, 2), c)
	if got := s.Partitions(); !slices.Equal(got, []int{0, 7, 65536}) {
		t.Errorf("Partitions: %v", got)
	}
	for _, number := range []int{-1, 1, 6, 8, 65535, 65537, math.MinInt, math.MaxInt} {
		p, e := s.Partition(number)
		expectErr(t, fmt.Sprint("Partition ", number), e, api.ErrNotFound)
		if p != nil {
			t.Errorf("Partition %d: a partition with an error", number)
		}
	}
	p, _ := s.Partition(0)
	expectSpans(t, "the records", p.Records(), []api.Span{b, revised(b, 2)})
	expectSpans(t, "the spans", p.Spans(), []api.Span{revised(b, 2)})
	// It is a copy.
	p.Insert([]api.Span{record(at(0, 1), 2)})
	p.Seal()
	compaction.All(p)
	expectRecords(t, "behind the change of a copy", s, a, b, revised(b, 2), c)
	applied(t, s, first(5))
	committed(t, s, 0, 0, 0, 1)
	_, e := s.Partition(0)
	expectErr(t, "a partition that was removed", e, api.ErrNotFound)
	if got := s.Partitions(); !slices.Equal(got, []int{7, 65536}) {
		t.Errorf("Partitions: %v", got)
	}
}

// blocks returns how many blocks each partition has.
func blocks(s *store.Store) []int {
	var l []int
	for _, number := range s.Partitions() {
		p, _ := s.Partition(number)
		l = append(l, len(p.Blocks()))
	}
	return l
}

// P35.6: compaction in every partition, behind which no step is possible.
func TestCompact(t *testing.T) {
	d := empty(t)
	s := opened(t, d, ages(9, 9))
	for _, fan := range []int{0, 1, 17, -1, math.MinInt, math.MaxInt} {
		n, e := s.Compact(fan)
		expectErr(t, fmt.Sprint("Compact with the fan ", fan), e, api.ErrRange)
		if n != 0 {
			t.Errorf("Compact with the fan %d: %d", fan, n)
		}
	}
	if n, e := s.Compact(2); n != 0 || e != api.OK {
		t.Errorf("Compact of nothing: %d, %d", n, e)
	}
	for _, fan := range []int{2, 3, 4, 16} {
		for k := range 40 {
			stored(t, s, parcel(100*fan+k, record(at(k%3, fan), k+1), record(at(5, fan), k+1)))
		}
		want := 0
		for _, number := range s.Partitions() {
			p, _ := s.Partition(number)
			steps, _ := compaction.Run(p, fan)
			want += len(steps)
		}
		before := d.Clone()
		d.Limit(0)
		limited := d.Clone()
		copied := opened(t, before, ages(9, 9))
		n, e := s.Compact(fan)
		if n != want || e != api.OK {
			t.Errorf("Compact with the fan %d: %d, %d; want %d", fan, n, e, want)
		}
		if !d.Equal(limited) {
			t.Error("Compact has written something")
		}
		expectState(t, "behind Compact", s, copied)
		for _, number := range s.Partitions() {
			p, _ := s.Partition(number)
			if _, isPossible, _ := compaction.Next(p, fan); isPossible {
				t.Errorf("a step is possible in %d with the fan %d", number, fan)
			}
		}
		if n, e := s.Compact(fan); n != 0 || e != api.OK {
			t.Errorf("Compact again: %d, %d", n, e)
		}
		d.Crash()
		d.Start(nil)
		if n, e := s.Compact(1); n != 0 || e != api.ErrRange {
			t.Errorf("Compact with the fan 1: %d, %d", n, e)
		}
	}
}

// P35.6: Compact merges what several commits have brought, and what waits stays as it is.
func TestCompactSteps(t *testing.T) {
	s := opened(t, empty(t), ages(1, 1))
	for k := range 4 {
		stored(t, s, parcel(k, record(at(0, 1), k+1), record(at(1, 1), k+1)))
	}
	stored(t, s, parcel(4, numbered(1, 100, 5)...))
	waiting(t, s, parcel(5))
	if got := blocks(s); !slices.Equal(got, []int{4, 5}) {
		t.Errorf("before Compact: %v blocks", got)
	}
	if n, e := s.Compact(4); n != 2 || e != api.OK || s.Pending() != 1 {
		t.Errorf("Compact: %d, %d", n, e)
	}
	if got := blocks(s); !slices.Equal(got, []int{1, 2}) {
		t.Errorf("behind Compact: %v blocks", got)
	}
	committed(t, s, 1, 0, 0, 0)
	expectErr(t, "Apply", s.Apply(16), api.OK)
	committed(t, s, 0, 0, 0, 1)
	if got := blocks(s); !slices.Equal(got, []int{2}) {
		t.Errorf("without the partition 0: %v blocks", got)
	}
}

// P35.6: however many commits there are, a partition never has too many blocks, and those that are not concerned stay as they are.
func TestManyBlocks(t *testing.T) {
	d := empty(t)
	p := retention.Policy{Full: 1, Sampled: 9, Sampling: sampling.Policy{Default: 1}}
	s := opened(t, d, p)
	var all []api.Span
	greatest := 0
	for k := range 150 {
		x := record(at(k%2, 1+k%13), k+1)
		all = append(all, x)
		stored(t, s, parcel(k, x, all[k/2]))
		greatest = max(greatest, slices.Max(blocks(s)))
		if k%10 == 0 {
			expectRecords(t, fmt.Sprint("commit ", k), s, all...)
		}
	}
	if greatest < 2 || greatest > 64 {
		t.Errorf("there were %d blocks", greatest)
	}
	expectRecords(t, "behind all commits", s, all...)
	expectState(t, "opened again", opened(t, d, p), s)
	before := blocks(s)
	stored(t, s, parcel(1000, all...), parcel(1001))
	if !slices.Equal(blocks(s), before) {
		t.Errorf("nothing new leads from %v to %v blocks", before, blocks(s))
	}
	k, _ := retention.New(p)
	k.Add(all)
	removed, _ := k.Apply(first(1))
	if removed == 0 || removed == 13 {
		t.Fatalf("%d traces are removed", removed)
	}
	applied(t, s, first(1))
	late, _ := k.Add([]api.Span{record(at(0, 1), 1000), record(at(0, 2), 1000), record(at(0, 3), 1000), record(at(0, 4), 1000)})
	waiting(t, s, parcel(1002, record(at(0, 1), 1000), record(at(0, 2), 1000), record(at(0, 3), 1000), record(at(0, 4), 1000)))
	committed(t, s, 1, 0, late, removed)
	expectRecords(t, "sampled", s, k.Records()...)
	if got := blocks(s); got[1] != before[1] {
		t.Errorf("the partition 1 had %d blocks, and has %d", before[1], got[1])
	}
	expectState(t, "opened again", opened(t, d, p), s)
}

// P35.6: removing traces from a partition that has all blocks it can have.
func TestFullPartition(t *testing.T) {
	p := retention.Policy{Full: 1, Sampled: 9, Sampling: sampling.Policy{Default: 1}}
	for _, commits := range []int{63, 64, 65, 66} {
		for _, isMore := range []bool{false, true} {
			s := opened(t, empty(t), p)
			k, _ := retention.New(p)
			for n := range commits {
				stored(t, s, parcel(n, record(at(0, n+1), 1)))
				k.Add([]api.Span{record(at(0, n+1), 1)})
			}
			removed, _ := k.Apply(16)
			applied(t, s, 16)
			isNew := 0
			if isMore {
				kept := k.Traces()[0].Id
				waiting(t, s, parcel(999, record(kept, 2)))
				k.Add([]api.Span{record(kept, 2)})
				isNew = 1
			}
			committed(t, s, isNew, 0, 0, removed)
			expectRecords(t, fmt.Sprint(commits, " commits"), s, k.Records()...)
		}
	}
}

// expectNothing expects what methods of a store without contents return.
func expectNothing(t *testing.T, what string, s *store.Store, want api.Errno) {
	t.Helper()
	expectErr(t, what+": Ingest", s.Ingest(api.Fragment{}), want)
	expectErr(t, what+": Ingest", s.Ingest(parcel(0)), want)
	expectErr(t, what+": Apply", s.Apply(-1), want)
	expectErr(t, what+": Apply", s.Apply(5), want)
	expectErr(t, what+": Discard", s.Discard(), want)
	sum, e := s.Commit()
	expectErr(t, what+": Commit", e, want)
	p, e := s.Partition(0)
	expectErr(t, what+": Partition", e, want)
	n, e := s.Compact(2)
	expectErr(t, what+": Compact", e, want)
	m, e := s.Compact(1)
	expectErr(t, what+": Compact", e, want)
	if sum != (store.Summary{}) || p != nil || n != 0 || m != 0 {
		t.Errorf("%s: Commit: %v, Partition: %v, Compact: %d, %d", what, sum, p, n, m)
	}
	r := s.Retained()
	if s.Pending() != 0 || s.Now() != 0 || s.Has(4, 0) || len(r.Traces)+len(r.Exchanges)+len(r.Removed)+len(r.Late) != 0 {
		t.Errorf("%s: %d operations wait, now %d, Retained: %v", what, s.Pending(), s.Now(), r)
	}
	if len(s.Traces())+len(s.Exchanges())+len(s.Partitions())+len(s.Scan(always(), isEverything())) != 0 {
		t.Errorf("%s has contents", what)
	}
}

// P1: nil stores, and those that Open has not made.
func TestNil(t *testing.T) {
	expectNothing(t, "nil", nil, api.ErrArgument)
	expectNothing(t, "the zero value", &store.Store{}, api.ErrArgument)
}

// The rules of the document: a store keeps nothing of its arguments, and its results are newly allocated.
func TestIndependence(t *testing.T) {
	attrs := func() []api.Attr { return []api.Attr{{Key: "k", Value: api.Value{Kind: api.KindInt, Int: 5}}} }
	a := record(at(0, 1), 1)
	a.Attrs, a.Links = attrs(), []api.Ref{{Trace: 1, Id: 2}}
	want := a
	want.Attrs, want.Links = attrs(), []api.Ref{{Trace: 1, Id: 2}}
	f := parcel(0, a)
	f.Exchanges = []api.Exchange{exchange(1, 2)}
	p := retention.Policy{Full: 1, Sampled: 2, Sampling: sampling.Policy{Rules: []sampling.Rule{{Exponent: 0}}, Default: 10}}
	d := empty(t)
	s := opened(t, d, p)
	p.Sampling.Rules[0].Exponent = 10
	waiting(t, s, f)
	f.Spans[0].Attrs[0].Key, f.Spans[0].Links[0].Id, f.Spans[0].Service, f.Exchanges[0].From = "changed", 9, "changed", 9
	committed(t, s, 1, 0, 0, 0)
	for range 2 {
		expectRecords(t, "the store", s, want)
		if got := s.Exchanges(); !slices.Equal(got, []api.Exchange{exchange(1, 2)}) {
			t.Errorf("Exchanges: %v", got)
		}
		r := s.Retained()
		r.Exchanges[0].From, s.Exchanges()[0].From, s.Partitions()[0] = 9, 9, 9
		for _, x := range []api.Span{r.Traces[0].Spans[0], s.Traces()[0].Spans[0], s.Scan(always(), isEverything())[0]} {
			x.Attrs[0].Key, x.Links[0].Id = "changed", 9
		}
	}
	applied(t, s, 16)
	committed(t, s, 0, 0, 0, 0)
	expectRecords(t, "with the old policy", s, want)
}
