package store_test

import (
	"fmt"
	"math"
	"slices"
	"strings"
	"testing"

	"sleuth/api"
	"sleuth/disk"
	"sleuth/encoding"
	"sleuth/retention"
	"sleuth/sampling"
	"sleuth/span"
	"sleuth/store"
	"sleuth/wal"
)

// at returns a trace of a partition.
func at(partition, n int) int { return partition<<(api.SlotBits+api.PartitionBits) + n }

// first returns the first slot of a partition.
func first(partition int) int { return partition << api.PartitionBits }

// record returns a valid span.
func record(trace, id int) api.Span {
	return api.Span{Trace: trace, Id: id, Clock: 1, Kind: api.Server, Service: "api", Operation: "get", Start: 10, End: 30}
}

// revised returns a later record of a span.
func revised(s api.Span, revision int) api.Span {
	s.Revision = revision
	return s
}

// numbered returns so many records of a partition, with ids from a number on.
func numbered(partition, from, n int) []api.Span {
	var l []api.Span
	for id := range n {
		l = append(l, record(at(partition, 1), from+id))
	}
	return l
}

// exchange returns a valid exchange.
func exchange(from, to int) api.Exchange {
	return api.Exchange{From: from, To: to, Sent: 5, Received: 8, Least: 1}
}

// parcel returns a fragment of the agent 4.
func parcel(seq int, l ...api.Span) api.Fragment { return api.Fragment{Agent: 4, Seq: seq, Spans: l} }

// ages returns a policy that keeps every trace until it is removed.
func ages(full, sampled int) retention.Policy {
	return retention.Policy{Full: full, Sampled: sampled}
}

// empty returns a disk without files.
func empty(t *testing.T) *disk.Disk {
	t.Helper()
	d, e := disk.New(disk.MaxCapacity)
	expectErr(t, "New", e, api.OK)
	return d
}

// opened returns a store with the name spans.
func opened(t *testing.T, d *disk.Disk, p retention.Policy) *store.Store {
	t.Helper()
	s, e := store.Open(d, "spans", p)
	if e != api.OK || s == nil {
		t.Fatalf("Open: %v, %d", s, e)
	}
	return s
}

// waiting ingests fragments, which wait then.
func waiting(t *testing.T, s *store.Store, l ...api.Fragment) {
	t.Helper()
	for _, f := range l {
		want := s.Pending() + 1
		expectErr(t, fmt.Sprintf("Ingest of %d %d", f.Agent, f.Seq), s.Ingest(f), api.OK)
		if s.Pending() != want {
			t.Errorf("Pending: %d, want %d", s.Pending(), want)
		}
	}
}

// applied adds the application of a slot to what waits.
func applied(t *testing.T, s *store.Store, slot int) {
	t.Helper()
	want := s.Pending() + 1
	expectErr(t, fmt.Sprint("Apply of ", slot), s.Apply(slot), api.OK)
	if s.Pending() != want {
		t.Errorf("Pending: %d, want %d", s.Pending(), want)
	}
}

// committed commits, and expects what this does.
func committed(t *testing.T, s *store.Store, isNew, repeated, late, removed int) {
	t.Helper()
	got, e := s.Commit()
	if want := (store.Summary{New: isNew, Repeated: repeated, Late: late, Removed: removed}); got != want || e != api.OK || s.Pending() != 0 {
		t.Errorf("Commit: %v, %d, and %d operations wait; want %v", got, e, s.Pending(), want)
	}
}

// stored ingests fragments that are new, and commits them.
func stored(t *testing.T, s *store.Store, l ...api.Fragment) {
	t.Helper()
	waiting(t, s, l...)
	committed(t, s, len(l), 0, 0, 0)
}

func expectErr(t *testing.T, what string, got, want api.Errno) {
	t.Helper()
	if got != want {
		t.Errorf("%s: the error %d, want %d", what, got, want)
	}
}

func expectSpans(t *testing.T, what string, got, want []api.Span) {
	t.Helper()
	if !slices.EqualFunc(got, want, span.Equal) {
		t.Errorf("%s: %v, want %v", what, got, want)
	}
}

// isSame reports whether two traces are equal.
func isSame(a, b api.Trace) bool {
	return a.Id == b.Id && a.Weight == b.Weight && slices.EqualFunc(a.Spans, b.Spans, span.Equal)
}

// isEverything is the predicate that each span satisfies.
func isEverything() api.Pred { return api.Pred{Op: api.PredTrue} }

// always is the interval of all slots.
func always() api.Interval { return api.Interval{From: 0, To: api.MaxSlot + 1} }

// expectRecords expects the records of all partitions, and what a store tells about them.
func expectRecords(t *testing.T, what string, s *store.Store, l ...api.Span) {
	t.Helper()
	var records []api.Span
	last := -1
	for _, number := range s.Partitions() {
		p, e := s.Partition(number)
		expectErr(t, what+": Partition", e, api.OK)
		if number <= last || p.Number() != number || p.Sealed() || len(p.Blocks()) == 0 || len(p.Blocks()) > 64 {
			t.Errorf("%s: the partition %d behind %d: number %d, sealed: %v, blocks: %d", what, number, last, p.Number(), p.Sealed(), len(p.Blocks()))
		}
		last = number
		records = append(records, p.Records()...)
	}
	expectSpans(t, what+": the records", records, span.Set(l))
	var spans []api.Span
	for _, x := range s.Traces() {
		spans = append(spans, x.Spans...)
	}
	expectSpans(t, what+": the spans of Traces", spans, span.Winners(l))
	expectSpans(t, what+": Scan", s.Scan(always(), isEverything()), span.Winners(l))
}

// expectState expects that a store has what another one has, apart from the operations that wait.
func expectState(t *testing.T, what string, s, o *store.Store) {
	t.Helper()
	a, b := s.Retained(), o.Retained()
	if !slices.EqualFunc(a.Traces, b.Traces, isSame) || !slices.Equal(a.Exchanges, b.Exchanges) {
		t.Errorf("%s: %v and %v; want %v and %v", what, a.Traces, a.Exchanges, b.Traces, b.Exchanges)
	}
	if !slices.Equal(a.Removed, b.Removed) || !slices.Equal(a.Late, b.Late) || s.Now() != o.Now() {
		t.Errorf("%s: %v and %v at %d; want %v and %v at %d", what, a.Removed, a.Late, s.Now(), b.Removed, b.Late, o.Now())
	}
	if !slices.Equal(s.Partitions(), o.Partitions()) {
		t.Errorf("%s: the partitions %v, want %v", what, s.Partitions(), o.Partitions())
	}
	for _, number := range o.Partitions() {
		p, _ := s.Partition(number)
		if q, _ := o.Partition(number); !p.Equal(q) {
			t.Errorf("%s: the partition %d: %v, want %v", what, number, p.Records(), q.Records())
		}
	}
}

// The limit of the document.
func TestLimit(t *testing.T) {
	if store.MaxPending != 256 {
		t.Errorf("MaxPending is %d", store.MaxPending)
	}
}

// P35.2, P35.3: the first example of the document.
func TestFirstExample(t *testing.T) {
	s := opened(t, empty(t), ages(1, 1))
	f := parcel(0, record(at(0, 1), 1), record(at(0, 1), 2))
	waiting(t, s, f)
	committed(t, s, 1, 0, 0, 0)
	waiting(t, s, f)
	committed(t, s, 0, 1, 0, 0)
	expectRecords(t, "before it is applied", s, f.Spans...)
	applied(t, s, 16)
	committed(t, s, 0, 0, 0, 1)
	expectRecords(t, "behind it", s)
	waiting(t, s, parcel(1, record(at(0, 1), 3)))
	committed(t, s, 1, 0, 1, 0)
	expectRecords(t, "at last", s)
	want := api.Retained{Removed: []api.Removed{{Service: "api", Spans: 2}}, Late: []api.Late{{Spans: 1}}}
	if got := s.Retained(); !slices.Equal(got.Removed, want.Removed) || !slices.Equal(got.Late, want.Late) || len(got.Traces)+len(got.Exchanges) != 0 {
		t.Errorf("Retained: %v, want %v", got, want)
	}
}

// P35.7: the second example of the document.
func TestSecondExample(t *testing.T) {
	d := empty(t)
	s := opened(t, d, ages(1, 1))
	waiting(t, s, parcel(0, record(at(0, 1), 1)))
	d.Crash()
	d.Start([]int{1, 2, 3})
	s = opened(t, d, ages(1, 1))
	if s.Pending() != 0 || s.Has(4, 0) {
		t.Errorf("%d operations wait, committed: %v", s.Pending(), s.Has(4, 0))
	}
	expectRecords(t, "behind the failure", s)
}

// P35.1: a new store is empty, and Open writes nothing.
func TestOpen(t *testing.T) {
	d := empty(t)
	d.Limit(0)
	before := d.Clone()
	s := opened(t, d, ages(1, 2))
	expectRecords(t, "a new store", s)
	if s.Pending() != 0 || s.Now() != 0 || len(s.Exchanges()) != 0 || s.Has(4, 0) {
		t.Errorf("a new store: %d wait, now %d, %v", s.Pending(), s.Now(), s.Exchanges())
	}
	if !d.Equal(before) {
		t.Error("Open has written something")
	}
	d = empty(t)
	s = opened(t, d, ages(2, 3))
	f := parcel(0, revised(record(at(0, 1), 1), 3), record(at(1, 2), 1), record(at(0, 1), 1))
	f.Exchanges = []api.Exchange{exchange(2, 1), exchange(1, 2)}
	stored(t, s, f, parcel(1))
	applied(t, s, 33)
	waiting(t, s, parcel(2, record(at(0, 2), 1), record(at(0, 1), 2)), parcel(1), parcel(3))
	committed(t, s, 2, 1, 1, 0)
	waiting(t, s, parcel(4))
	before = d.Clone()
	again := opened(t, d, ages(2, 3))
	expectState(t, "the store that was opened again", again, s)
	if again.Pending() != 0 || again.Has(4, 4) || !again.Has(4, 3) || again.Has(4, 5) {
		t.Errorf("%d operations wait", again.Pending())
	}
	if !d.Equal(before) {
		t.Error("Open has written something")
	}
}

// P35.1: the errors in their order.
func TestOpenErrors(t *testing.T) {
	wrong := retention.Policy{Full: 1, Sampled: 2, Sampling: sampling.Policy{Rules: []sampling.Rule{{Where: api.Pred{Op: 99}}}}}
	up, down, gap := empty(t), empty(t), empty(t)
	down.Crash()
	for k := range 3 {
		stored(t, opened(t, gap, ages(1, 1)), parcel(k))
	}
	expectErr(t, "Remove", gap.Remove("spans.000002"), api.OK)
	for _, c := range []struct {
		what string
		d    *disk.Disk
		name string
		p    retention.Policy
		e    api.Errno
	}{
		{"no disk", nil, "", ages(3, 2), api.ErrArgument},
		{"a wrong policy", down, "", ages(3, 2), api.ErrRange},
		{"a wrong rule", down, "", wrong, api.ErrKind},
		{"no name", down, "", ages(1, 2), api.ErrName},
		{"a long name", down, strings.Repeat("x", wal.MaxName+1), ages(1, 2), api.ErrName},
		{"a name with a space", up, "a b", ages(1, 2), api.ErrName},
		{"a disk that is down", down, "spans", ages(1, 2), api.ErrCrash},
		{"a gap", gap, "spans", ages(1, 2), api.ErrGap},
		{"another name", gap, "other", ages(1, 2), api.OK},
		{"a name that is just short enough", up, strings.Repeat("x", wal.MaxName), ages(1, 2), api.OK},
	} {
		s, e := store.Open(c.d, c.name, c.p)
		expectErr(t, c.what, e, c.e)
		if (s != nil) != (c.e == api.OK) {
			t.Errorf("%s: the store %v", c.what, s)
		}
	}
}

// P35.1: stores with different names, and other logs, do not influence one another.
func TestNames(t *testing.T) {
	d := empty(t)
	a, e := store.Open(d, "a", ages(1, 1))
	expectErr(t, "Open", e, api.OK)
	b, e := store.Open(d, "a.b", ages(2, 2))
	expectErr(t, "Open", e, api.OK)
	log, e := wal.Open(d, "log")
	expectErr(t, "Open", e, api.OK)
	log.Append("x")
	log.Commit()
	stored(t, a, parcel(0, record(at(0, 1), 1)))
	stored(t, b, parcel(0, record(at(0, 1), 2)))
	stored(t, a, parcel(1, record(at(0, 1), 3)))
	a, _ = store.Open(d, "a", ages(1, 1))
	b, _ = store.Open(d, "a.b", ages(2, 2))
	expectRecords(t, "a", a, record(at(0, 1), 1), record(at(0, 1), 3))
	expectRecords(t, "a.b", b, record(at(0, 1), 2))
	if !slices.ContainsFunc(d.List(), func(file string) bool { return file == "a.000001" }) {
		t.Errorf("the files: %v", d.List())
	}
}

// P1: a log that this package has not written.
func TestForeignLog(t *testing.T) {
	number := func(l ...int) string {
		var w encoding.Writer
		for _, n := range l {
			w.Number(n)
		}
		return w.Bytes()
	}
	text := func(kind int, form string) string {
		var w encoding.Writer
		w.Number(kind)
		w.Text(form)
		return w.Bytes()
	}
	for _, c := range []struct {
		record string
		e      api.Errno
	}{
		{"", api.ErrTruncated},
		{"hello", api.ErrForm},
		{number(1), api.ErrTruncated},
		{text(0, ""), api.ErrKind},
		{text(3, ""), api.ErrKind},
		{text(1, ""), api.ErrTruncated},
		{text(1, "\x00"), api.ErrForm},
		{text(2, number(5)) + "\x00", api.ErrForm},
		{text(2, number(5, 6)), api.ErrForm},
		{text(2, ""), api.ErrTruncated},
	} {
		d := empty(t)
		log, _ := wal.Open(d, "spans")
		log.Append(c.record)
		log.Commit()
		s, e := store.Open(d, "spans", ages(1, 2))
		expectErr(t, fmt.Sprintf("a log with %q", c.record), e, c.e)
		if s != nil {
			t.Errorf("a log with %q: a store with an error", c.record)
		}
	}
}

// P1: another policy than before, by which what was committed can't be kept.
func TestOtherPolicy(t *testing.T) {
	d := empty(t)
	s := opened(t, d, ages(0, 0))
	waiting(t, s, parcel(0, withText(at(0, 1), 1, 256), record(at(0, 1), 2)))
	committed(t, s, 1, 0, 2, 0)
	s, e := store.Open(d, "spans", ages(1, 1))
	expectErr(t, "Open with another policy", e, api.ErrLong)
	if s != nil {
		t.Error("a store with an error")
	}
}

// sized returns a fragment whose form has so many bytes.
func sized(t *testing.T, seq, size int) api.Fragment {
	t.Helper()
	f := parcel(seq)
	left := func() int { return size - len(encoding.EncodeFragment(f)) }
	for left() > 180 {
		f.Spans = append(f.Spans, record(at(0, 1), 1+len(f.Spans)))
	}
	s := record(at(0, 1), 1+len(f.Spans))
	s.Version = "v"
	// Each further byte of a name is a byte of the form.
	more := left() - len(encoding.EncodeSpan(s))
	s.Service += strings.Repeat("s", min(60, more))
	s.Operation += strings.Repeat("o", min(60, max(0, more-60)))
	s.Version += strings.Repeat("v", max(0, more-120))
	f.Spans = append(f.Spans, s)
	if left() != 0 {
		t.Fatalf("%d bytes are left", left())
	}
	return f
}

// P35.2: how long the form of a fragment can be; the longest one is found again.
func TestLongFragments(t *testing.T) {
	d := empty(t)
	s := opened(t, d, ages(1, 1))
	most := wal.MaxRecord - 16
	longest := sized(t, 0, most)
	if n := len(encoding.EncodeFragment(longest)); n != most {
		t.Fatalf("the form has %d bytes", n)
	}
	expectErr(t, "Ingest of a longer form", s.Ingest(sized(t, 1, most+1)), api.ErrLong)
	if s.Pending() != 0 {
		t.Error("a fragment that is too long waits")
	}
	stored(t, s, longest)
	expectRecords(t, "the longest form", s, longest.Spans...)
	expectState(t, "opened again", opened(t, d, ages(1, 1)), s)
}

// P35.2: the errors of Ingest in their order.
func TestIngestErrors(t *testing.T) {
	s := opened(t, empty(t), ages(1, 1))
	unnamed, badExchange := record(at(0, 1), 1), exchange(0, 1)
	unnamed.Service = ""
	long := sized(t, 0, wal.MaxRecord-15)
	longAndWrong := long
	longAndWrong.Seq = -1
	check := func(what string, f api.Fragment, want api.Errno) {
		t.Helper()
		before := s.Pending()
		expectErr(t, what, s.Ingest(f), want)
		if s.Pending() != before {
			t.Errorf("%s waits", what)
		}
	}
	cases := func() {
		t.Helper()
		check("a wrong agent", api.Fragment{Agent: 0, Spans: []api.Span{unnamed}}, api.ErrRange)
		check("a wrong number", api.Fragment{Agent: 1, Seq: api.MaxSmall + 1}, api.ErrRange)
		check("too many spans", parcel(1, make([]api.Span, api.MaxRecords+1)...), api.ErrLimit)
		check("a wrong span", api.Fragment{Agent: 1, Spans: []api.Span{unnamed}, Exchanges: []api.Exchange{badExchange}}, api.ErrName)
		check("a wrong exchange", api.Fragment{Agent: 1, Exchanges: []api.Exchange{exchange(1, 2), badExchange}}, api.ErrRange)
		check("a long and wrong one", longAndWrong, api.ErrRange)
		check("a long one", long, api.ErrLong)
	}
	cases()
	for k := range 256 {
		waiting(t, s, parcel(k))
	}
	cases()
	check("one more", parcel(256), api.ErrFull)
	expectErr(t, "Apply", s.Apply(0), api.ErrFull)
	expectErr(t, "Apply of no slot", s.Apply(-1), api.ErrTime)
	committed(t, s, 256, 0, 0, 0)
	waiting(t, s, parcel(256))
}

// P35.2: the slots that can be applied.
func TestApplyErrors(t *testing.T) {
	d := empty(t)
	s := opened(t, d, ages(1, 1))
	check := func(slot int, want api.Errno) {
		t.Helper()
		before := s.Pending()
		expectErr(t, fmt.Sprint("Apply of ", slot), s.Apply(slot), want)
		if s.Pending() != before {
			t.Errorf("Apply of %d waits", slot)
		}
	}
	wrong := func() {
		t.Helper()
		for _, slot := range []int{-1, math.MinInt, api.MaxSlot + 1, math.MaxInt} {
			check(slot, api.ErrTime)
		}
	}
	wrong()
	applied(t, s, 7)
	check(6, api.ErrOrder)
	applied(t, s, 7)
	waiting(t, s, parcel(0))
	check(6, api.ErrOrder)
	applied(t, s, 9)
	check(8, api.ErrOrder)
	check(0, api.ErrOrder)
	wrong()
	if s.Now() != 0 {
		t.Errorf("now, while operations wait: %d", s.Now())
	}
	expectErr(t, "Discard", s.Discard(), api.OK)
	applied(t, s, 3)
	committed(t, s, 0, 0, 0, 0)
	if s.Now() != 3 {
		t.Errorf("now: %d", s.Now())
	}
	check(2, api.ErrOrder)
	applied(t, s, 3)
	waiting(t, s, parcel(1))
	check(2, api.ErrOrder)
	applied(t, s, api.MaxSlot)
	check(api.MaxSlot-1, api.ErrOrder)
	committed(t, s, 1, 0, 0, 0)
	check(api.MaxSlot-1, api.ErrOrder)
	s = opened(t, d, ages(1, 1))
	check(api.MaxSlot-1, api.ErrOrder)
	for range 256 {
		applied(t, s, api.MaxSlot)
	}
	check(api.MaxSlot, api.ErrFull)
	check(5, api.ErrOrder)
	wrong()
}

// P35.2: Discard removes what waits, here and on the disk.
func TestDiscard(t *testing.T) {
	d := empty(t)
	s := opened(t, d, ages(1, 1))
	expectErr(t, "Discard of nothing", s.Discard(), api.OK)
	waiting(t, s, parcel(0, record(at(0, 1), 1)), parcel(1))
	applied(t, s, 5)
	expectErr(t, "Discard", s.Discard(), api.OK)
	if s.Pending() != 0 {
		t.Errorf("Pending: %d", s.Pending())
	}
	committed(t, s, 0, 0, 0, 0)
	stored(t, s, parcel(0, record(at(0, 1), 2)))
	for range 2 {
		expectRecords(t, "behind Discard", s, record(at(0, 1), 2))
		if !s.Has(4, 0) || s.Has(4, 1) || s.Now() != 0 {
			t.Errorf("behind Discard: %v, %v, now %d", s.Has(4, 0), s.Has(4, 1), s.Now())
		}
		s = opened(t, d, ages(1, 1))
	}
}

// P35.3: what waits is neither found nor counted before it is committed.
func TestWaiting(t *testing.T) {
	d := empty(t)
	s := opened(t, d, ages(1, 1))
	stored(t, s, parcel(0, record(at(0, 1), 1)))
	before := d.Clone()
	f := parcel(1, record(at(0, 1), 2), record(at(5, 1), 1))
	f.Exchanges = []api.Exchange{exchange(1, 2)}
	waiting(t, s, f)
	applied(t, s, 16)
	expectRecords(t, "what waits", s, record(at(0, 1), 1))
	if s.Has(4, 1) || s.Now() != 0 || len(s.Exchanges()) != 0 || !d.Equal(before) {
		t.Error("what waits is found")
	}
	committed(t, s, 1, 0, 0, 1)
	expectRecords(t, "what was committed", s, record(at(5, 1), 1))
	if !s.Has(4, 1) || s.Now() != 16 || !slices.Equal(s.Exchanges(), f.Exchanges) || d.Equal(before) {
		t.Error("what was committed is not found")
	}
}

// P35.3: a Commit of nothing writes nothing, even if the machine is down.
func TestCommitOfNothing(t *testing.T) {
	d := empty(t)
	s := opened(t, d, ages(1, 1))
	d.Limit(0)
	before := d.Clone()
	committed(t, s, 0, 0, 0, 0)
	if !d.Equal(before) {
		t.Error("a Commit of nothing has written something")
	}
	d.Crash()
	committed(t, s, 0, 0, 0, 0)
	waiting(t, s, parcel(0))
	_, e := s.Commit()
	expectErr(t, "Commit", e, api.ErrCrash)
}

// P35.3: fragments are repeated if their identity is, whatever they contain, and operations are performed in order.
func TestRepeated(t *testing.T) {
	d := empty(t)
	s := opened(t, d, ages(1, 1))
	a, b := record(at(0, 1), 1), record(at(0, 1), 2)
	other := api.Fragment{Agent: 5, Seq: 0, Spans: []api.Span{revised(a, 1)}}
	second := parcel(0, b)
	second.Exchanges = []api.Exchange{exchange(1, 2)}
	waiting(t, s, parcel(0, a), second, parcel(1, a), parcel(0, a), other)
	committed(t, s, 3, 2, 0, 0)
	expectRecords(t, "the first one counts", s, a, revised(a, 1))
	if len(s.Exchanges()) != 0 {
		t.Errorf("Exchanges: %v", s.Exchanges())
	}
	// What is late in a repeated fragment is not counted.
	applied(t, s, 16)
	waiting(t, s, parcel(0, a), parcel(2, b, b, record(at(1, 1), 1)), parcel(2, b), parcel(0))
	committed(t, s, 1, 3, 2, 1)
	expectRecords(t, "behind it", s, record(at(1, 1), 1))
	if late := s.Retained().Late; !slices.Equal(late, []api.Late{{Partition: 0, Spans: 2}}) {
		t.Errorf("Late: %v", late)
	}
	expectState(t, "opened again", opened(t, d, ages(1, 1)), s)
}

// P35.3: operations are performed in the order in which they came.
func TestOrder(t *testing.T) {
	a, b := record(at(0, 1), 1), record(at(0, 2), 1)
	s := opened(t, empty(t), ages(1, 1))
	waiting(t, s, parcel(0, a))
	applied(t, s, 16)
	waiting(t, s, parcel(1, a, b))
	committed(t, s, 2, 0, 2, 1)
	expectRecords(t, "all are gone", s)
	s = opened(t, empty(t), ages(1, 1))
	waiting(t, s, parcel(0, a), parcel(1, a, b))
	applied(t, s, 16)
	applied(t, s, 32)
	committed(t, s, 2, 0, 0, 2)
	s = opened(t, empty(t), ages(1, 2))
	applied(t, s, 16)
	waiting(t, s, parcel(0, a, b, record(at(1, 1), 1)))
	committed(t, s, 1, 0, 2, 0)
	expectRecords(t, "one is kept", s, record(at(1, 1), 1))
}

// expectRefused expects that a Commit returns an error, and that it changes nothing.
func expectRefused(t *testing.T, what string, d *disk.Disk, s *store.Store, want api.Errno) {
	t.Helper()
	before, pending, old := d.Clone(), s.Pending(), opened(t, d, ages(1, 1))
	sum, e := s.Commit()
	expectErr(t, what, e, want)
	if sum != (store.Summary{}) || s.Pending() != pending || !d.Equal(before) {
		t.Errorf("%s: %v, and %d operations wait", what, sum, s.Pending())
	}
	expectState(t, what, s, old)
}

// P35.3: as many records as a partition can have, and one more.
func TestManyRecords(t *testing.T) {
	d := empty(t)
	s := opened(t, d, ages(1, 1))
	var all []api.Span
	for k := range 8 {
		l := numbered(0, 512*k+1, 512)
		waiting(t, s, parcel(k, l...))
		all = append(all, l...)
	}
	committed(t, s, 8, 0, 0, 0)
	waiting(t, s, parcel(8, all[0]), parcel(9, record(at(0, 1), 5000), record(at(1, 1), 1)))
	expectRefused(t, "one record more", d, s, api.ErrLimit)
	expectRefused(t, "again", d, s, api.ErrLimit)
	if s.Has(4, 8) {
		t.Error("a fragment that was not committed is found")
	}
	// A slot makes room.
	applied(t, s, 16)
	committed(t, s, 2, 0, 0, 1)
	expectRecords(t, "behind it", s, record(at(1, 1), 1))
	s = opened(t, empty(t), ages(1, 1))
	for k := range 8 {
		stored(t, s, parcel(k, all[512*k:512*k+512]...))
	}
	stored(t, s, parcel(8, append(all[:100:100], record(at(1, 1), 1))...))
	expectRecords(t, "each once", s, append(all, record(at(1, 1), 1))...)
}

// withText returns a record with a text of so many bytes.
func withText(trace, id, n int) api.Span {
	s := record(trace, id)
	s.Attrs = []api.Attr{{Key: "k", Value: api.Value{Kind: api.KindString, Text: strings.Repeat("x", n)}}}
	return s
}

// withLists returns a record with so many attributes and links.
func withLists(trace, id, attrs, links int) api.Span {
	s := record(trace, id)
	for k := range attrs {
		s.Attrs = append(s.Attrs, api.Attr{Key: fmt.Sprintf("k%02d", k), Value: api.Value{Kind: api.KindInt, Int: k}})
	}
	for k := range links {
		s.Links = append(s.Links, api.Ref{Trace: 1, Id: k + 1})
	}
	return s
}

// P35.3: the first partition of which no block can be made decides, as far as its records are retained.
func TestBlockErrors(t *testing.T) {
	var attrs, links []api.Span
	for id := range 128 {
		attrs = append(attrs, withLists(at(1, 1), id+1, 32, 0))
		links = append(links, withLists(at(3, 1), 2*id+1, 0, 16), withLists(at(3, 1), 2*id+2, 0, 16))
	}
	long := withText(at(2, 1), 1, 256)
	one := func(s api.Span) []api.Span { return []api.Span{s} }
	for _, c := range []struct {
		what  string
		lists [][]api.Span
		e     api.Errno
	}{
		{"a text that is just short enough", [][]api.Span{one(withText(at(2, 1), 1, 255))}, api.OK},
		{"a text that is too long", [][]api.Span{one(long)}, api.ErrLong},
		{"as many attributes and links as there can be", [][]api.Span{attrs, links}, api.OK},
		{"an attribute more", [][]api.Span{attrs, one(withLists(at(1, 2), 1, 1, 0))}, api.ErrLimit},
		{"a link more", [][]api.Span{links, one(withLists(at(3, 2), 1, 0, 1))}, api.ErrLimit},
		{"too many attributes before a text that is too long", [][]api.Span{one(long), attrs, one(withLists(at(1, 2), 1, 1, 0))}, api.ErrLimit},
		{"a text that is too long before too many links", [][]api.Span{links, one(withLists(at(3, 2), 1, 0, 1)), one(long)}, api.ErrLong},
		{"a text that is too long, and late", [][]api.Span{one(withText(at(0, 1), 1, 256))}, api.OK},
	} {
		d := empty(t)
		s := opened(t, d, ages(1, 1))
		applied(t, s, 16)
		committed(t, s, 0, 0, 0, 0)
		for _, l := range c.lists {
			for part := range slices.Chunk(l, 100) {
				waiting(t, s, parcel(s.Pending(), part...))
			}
		}
		n := s.Pending()
		if c.e != api.OK {
			expectRefused(t, c.what, d, s, c.e)
			expectErr(t, c.what+": Discard", s.Discard(), api.OK)
			stored(t, s, parcel(0, record(at(9, 1), 1)))
			expectRecords(t, c.what, s, record(at(9, 1), 1))
			continue
		}
		late := 0
		if c.lists[0][0].Trace == at(0, 1) {
			late = 1
		}
		committed(t, s, n, 0, late, 0)
		expectState(t, c.what, opened(t, d, ages(1, 1)), s)
	}
	// It is removed again before it could be kept.
	s := opened(t, empty(t), ages(1, 1))
	waiting(t, s, parcel(0, long))
	applied(t, s, first(3))
	committed(t, s, 1, 0, 0, 1)
}

// P35.3: a disk without room, and one without further files.
func TestDiskErrors(t *testing.T) {
	d := empty(t)
	s := opened(t, d, ages(1, 1))
	expectErr(t, "Append", d.Append("other", strings.Repeat("x", disk.MaxCapacity-10)), api.OK)
	waiting(t, s, parcel(0, record(at(0, 1), 1)))
	applied(t, s, 3)
	expectRefused(t, "no room", d, s, api.ErrFull)
	// No block can be made either.
	waiting(t, s, parcel(1, withText(at(0, 2), 1, 256)))
	expectRefused(t, "no room and no block", d, s, api.ErrLong)
	expectErr(t, "Discard", s.Discard(), api.OK)
	waiting(t, s, parcel(0, record(at(0, 1), 1)))
	applied(t, s, 4)
	expectRefused(t, "no room", d, s, api.ErrFull)
	expectErr(t, "Remove", d.Remove("other"), api.OK)
	committed(t, s, 1, 0, 0, 0)
	expectRecords(t, "with room", s, record(at(0, 1), 1))
	if s.Now() != 4 {
		t.Errorf("now: %d", s.Now())
	}
	expectState(t, "opened again", opened(t, d, ages(1, 1)), s)
	d = empty(t)
	s = opened(t, d, ages(1, 1))
	for k := range disk.MaxFiles {
		expectErr(t, "Append", d.Append(fmt.Sprint("f", k), ""), api.OK)
	}
	waiting(t, s, parcel(0, record(at(0, 1), 1)))
	expectRefused(t, "no files", d, s, api.ErrLimit)
	expectErr(t, "Remove", d.Remove("f7"), api.OK)
	committed(t, s, 1, 0, 0, 0)
	expectRecords(t, "with files", s, record(at(0, 1), 1))
}
