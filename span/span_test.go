package span_test

import (
	"fmt"
	"math"
	"math/rand"
	"reflect"
	"slices"
	"strings"
	"testing"

	"sleuth/api"
	"sleuth/span"
)

// x returns a string of so many bytes.
func x(size int) string { return strings.Repeat("x", size) }

func text(s string) api.Value { return api.Value{Kind: api.KindString, Text: s} }

func number(n int) api.Value { return api.Value{Kind: api.KindInt, Int: n} }

func truth(n int) api.Value { return api.Value{Kind: api.KindBool, Int: n} }

// ordinary returns a valid span.
func ordinary() api.Span {
	return api.Span{
		Trace: 3<<api.SlotBits + 5, Id: 7, Parent: 6, Revision: 2, Clock: 4, Kind: api.Server,
		Service: "api", Version: "v2", Operation: "get",
		Start: -10, End: 90, Error: true,
		Attrs: []api.Attr{{Key: "db", Value: number(1)}, {Key: "region", Value: text("eu")}},
		Links: []api.Ref{{Trace: 1, Id: 9}, {Trace: 2, Id: 1}},
	}
}

// with returns the ordinary span after some changes.
func with(changes ...func(s *api.Span)) api.Span {
	s := ordinary()
	for _, change := range changes {
		change(&s)
	}
	return s
}

// record returns a record of which some numbers are given.
func record(trace, id, revision, parent, end int) api.Span {
	return api.Span{Trace: trace, Id: id, Revision: revision, Parent: parent, Clock: 1, Kind: api.Internal, Service: "api", Operation: "get", End: end}
}

// someRecords returns records of few identities, in no order, many of them more than once.
func someRecords(random *rand.Rand) []api.Span {
	var l []api.Span
	for range random.Intn(14) {
		s := record(1+random.Intn(3), 1+random.Intn(3), random.Intn(2), random.Intn(2), random.Intn(2))
		s.Error = random.Intn(2) == 1
		for n := range random.Intn(3) {
			s.Attrs = append(s.Attrs, api.Attr{Key: fmt.Sprint("k", n), Value: number(random.Intn(2))})
			s.Links = append(s.Links, api.Ref{Trace: n + 1, Id: 1 + random.Intn(2)})
		}
		l = append(l, s)
		if random.Intn(3) == 0 {
			l = append(l, l[random.Intn(len(l))])
		}
	}
	return l
}

// shuffled returns the elements of a list in another order, some of them twice.
func shuffled(random *rand.Rand, l []api.Span) []api.Span {
	var mixed []api.Span
	for _, k := range random.Perm(len(l)) {
		mixed = append(mixed, l[k])
		if random.Intn(4) == 0 {
			mixed = append(mixed, l[random.Intn(len(l))])
		}
	}
	return mixed
}

func expectErr(t *testing.T, what string, got, want api.Errno) {
	t.Helper()
	if got != want {
		t.Errorf("%s: %d, want %d", what, got, want)
	}
}

func expectInt(t *testing.T, what string, got, want int) {
	t.Helper()
	if got != want {
		t.Errorf("%s: %d, want %d", what, got, want)
	}
}

// expectSpans compares two lists of records. Nil and empty lists are equal, in records, too.
func expectSpans(t *testing.T, what string, got, want []api.Span) {
	t.Helper()
	isSame := func(a, b api.Span) bool { return reflect.DeepEqual(plain(a), plain(b)) }
	if !slices.EqualFunc(got, want, isSame) {
		t.Errorf("%s: %v, want %v", what, got, want)
	}
}

// plain returns a record without empty lists.
func plain(s api.Span) api.Span {
	if len(s.Attrs) == 0 {
		s.Attrs = nil
	}
	if len(s.Links) == 0 {
		s.Links = nil
	}
	return s
}

// links returns so many links that increase.
func links(size int) []api.Ref {
	var l []api.Ref
	for n := range size {
		l = append(l, api.Ref{Trace: 1, Id: n + 1})
	}
	return l
}

// attrs returns so many attributes whose keys increase.
func attrs(size int) []api.Attr {
	var l []api.Attr
	for n := range size {
		l = append(l, api.Attr{Key: fmt.Sprintf("k%02d", n), Value: truth(1)})
	}
	return l
}

// a broken is a change of a span, with the error that it causes.
type broken struct {
	e      api.Errno
	change func(s *api.Span)
}

// breaks returns changes that cause errors, in the order in which these are looked for. Of those between two empty ones, any comes first.
func breaks() []broken {
	return []broken{
		{api.ErrRange, func(s *api.Span) { s.Trace = 0 }},
		{api.ErrRange, func(s *api.Span) { s.Trace = api.MaxId + 1 }},
		{api.ErrRange, func(s *api.Span) { s.Id = 0 }},
		{api.ErrRange, func(s *api.Span) { s.Id = api.MaxId + 1 }},
		{api.ErrRange, func(s *api.Span) { s.Parent = -1 }},
		{api.ErrRange, func(s *api.Span) { s.Parent = api.MaxId + 1 }},
		{api.ErrRange, func(s *api.Span) { s.Revision = -1 }},
		{api.ErrRange, func(s *api.Span) { s.Revision = api.MaxSmall + 1 }},
		{api.ErrRange, func(s *api.Span) { s.Clock = 0 }},
		{api.ErrRange, func(s *api.Span) { s.Clock = api.MaxSmall + 1 }},
		{api.ErrRange, func(s *api.Span) { s.Trace = math.MinInt }},
		{api.ErrKind, func(s *api.Span) { s.Kind = 0 }},
		{api.ErrKind, func(s *api.Span) { s.Kind = 6 }},
		{api.ErrKind, func(s *api.Span) { s.Kind = -1 }},
		{api.ErrName, func(s *api.Span) { s.Service = "" }},
		{api.ErrName, func(s *api.Span) { s.Service = "a b" }},
		{api.ErrName, func(s *api.Span) { s.Service = x(api.MaxName + 1) }},
		{api.ErrName, func(s *api.Span) { s.Operation = "" }},
		{api.ErrName, func(s *api.Span) { s.Operation = "\x7f" }},
		{api.ErrName, func(s *api.Span) { s.Version = " " }},
		{api.ErrName, func(s *api.Span) { s.Version = x(api.MaxName + 1) }},
		{api.ErrTime, func(s *api.Span) { s.Start = -api.MaxTime - 1 }},
		{api.ErrTime, func(s *api.Span) { s.Start = api.MaxTime + 1 }},
		{api.ErrTime, func(s *api.Span) { s.End = api.MaxTime + 1 }},
		{api.ErrTime, func(s *api.Span) { s.End = -api.MaxTime - 1 }},
		{api.ErrTime, func(s *api.Span) { s.Start, s.End = math.MinInt, math.MaxInt }},
		{api.ErrOrder, func(s *api.Span) { s.End = s.Start - 1 }},
		{api.ErrOrder, func(s *api.Span) { s.Start, s.End = api.MaxTime, -api.MaxTime }},
		{api.ErrTime, func(s *api.Span) { s.Start, s.End = -1, api.MaxTime }},
		{api.ErrTime, func(s *api.Span) { s.Start, s.End = -api.MaxTime, api.MaxTime }},
		{api.ErrLimit, func(s *api.Span) { s.Attrs = attrs(api.MaxAttrs + 1) }},
		{api.ErrName, func(s *api.Span) { s.Attrs = []api.Attr{{Key: "", Value: number(1)}} }},
		{api.ErrOrder, func(s *api.Span) { s.Attrs = []api.Attr{s.Attrs[0], s.Attrs[0]} }},
		{api.ErrKind, func(s *api.Span) { s.Attrs = []api.Attr{{Key: "a"}} }},
		{api.ErrForm, func(s *api.Span) { s.Attrs = []api.Attr{{Key: "a", Value: truth(2)}} }},
		{api.ErrLong, func(s *api.Span) { s.Attrs = []api.Attr{{Key: "a", Value: text(x(api.MaxText + 1))}} }},
		{api.ErrLimit, func(s *api.Span) { s.Links = links(api.MaxLinks + 1) }},
		{api.ErrLimit, func(s *api.Span) { s.Links = make([]api.Ref, api.MaxLinks+1) }},
		{api.ErrRange, func(s *api.Span) { s.Links = []api.Ref{{Trace: 0, Id: 1}} }},
		{api.ErrRange, func(s *api.Span) { s.Links = []api.Ref{{Trace: api.MaxId + 1, Id: 1}} }},
		{api.ErrRange, func(s *api.Span) { s.Links = []api.Ref{{Trace: 1, Id: 0}} }},
		{api.ErrRange, func(s *api.Span) { s.Links = []api.Ref{{Trace: 1, Id: 1}, {Trace: 1, Id: api.MaxId + 1}} }},
		{api.ErrRange, func(s *api.Span) { s.Links = []api.Ref{{Trace: 2, Id: 1}, {Trace: 1, Id: 0}} }},
		{api.ErrRange, func(s *api.Span) { s.Links = []api.Ref{{Trace: 0, Id: 1}, {Trace: 0, Id: 1}} }},
		{api.ErrOrder, func(s *api.Span) { s.Links = []api.Ref{{Trace: 1, Id: 1}, {Trace: 1, Id: 1}} }},
		{api.ErrOrder, func(s *api.Span) { s.Links = []api.Ref{{Trace: 1, Id: 2}, {Trace: 1, Id: 1}} }},
		{api.ErrOrder, func(s *api.Span) { s.Links = []api.Ref{{Trace: 2, Id: 1}, {Trace: 1, Id: 2}} }},
		{api.ErrOrder, func(s *api.Span) { s.Links = []api.Ref{{Trace: 2, Id: 1}, {Trace: 1, Id: 2}, {}} }},
	}
}

// P11.1: each error.
func TestCheck(t *testing.T) {
	expectErr(t, "Check", span.Check(ordinary()), api.OK)
	for k, b := range breaks() {
		expectErr(t, fmt.Sprintf("Check(%d: %.300v)", k, fmt.Sprint(with(b.change))), span.Check(with(b.change)), b.e)
	}
	expectErr(t, "Check of nothing", span.Check(api.Span{}), api.ErrRange)
}

// P11.1: of two errors that do not concern the same fields, the one that is looked for first.
func TestCheckOrder(t *testing.T) {
	all := breaks()
	for k, first := range all {
		for j, second := range all[k:] {
			both := with(second.change, first.change)
			swapped := with(first.change, second.change)
			if !reflect.DeepEqual(both, swapped) {
				continue // the second change undoes the first one
			}
			expectErr(t, fmt.Sprintf("Check with the errors %d and %d", k, k+j), span.Check(both), first.e)
		}
	}
}

// P11.1: what is just permitted.
func TestCheckLimits(t *testing.T) {
	for k, change := range []func(s *api.Span){
		func(s *api.Span) { s.Trace, s.Id, s.Parent, s.Revision, s.Clock = 1, 1, 0, 0, 1 },
		func(s *api.Span) { s.Trace, s.Id, s.Parent = api.MaxId, api.MaxId, api.MaxId },
		func(s *api.Span) { s.Revision, s.Clock = api.MaxSmall, api.MaxSmall },
		func(s *api.Span) { s.Parent = s.Id },
		func(s *api.Span) { s.Kind = api.Internal },
		func(s *api.Span) { s.Kind = api.Client },
		func(s *api.Span) { s.Kind = api.Producer },
		func(s *api.Span) { s.Kind = api.Consumer },
		func(s *api.Span) { s.Version = "" },
		func(s *api.Span) {
			s.Service, s.Version, s.Operation = x(api.MaxName), x(api.MaxName), x(api.MaxName)
		},
		func(s *api.Span) { s.End = s.Start },
		func(s *api.Span) { s.Start, s.End = 0, api.MaxTime },
		func(s *api.Span) { s.Start, s.End = -api.MaxTime, 0 },
		func(s *api.Span) { s.Start, s.End = -1, api.MaxTime-1 },
		func(s *api.Span) { s.Start, s.End = api.MaxTime, api.MaxTime },
		func(s *api.Span) { s.Start, s.End = -api.MaxTime, -api.MaxTime },
		func(s *api.Span) { s.Error = false },
		func(s *api.Span) { s.Attrs, s.Links = nil, nil },
		func(s *api.Span) { s.Attrs, s.Links = []api.Attr{}, []api.Ref{} },
		func(s *api.Span) { s.Attrs, s.Links = attrs(api.MaxAttrs), links(api.MaxLinks) },
		func(s *api.Span) { s.Links = []api.Ref{{Trace: 1, Id: api.MaxId}, {Trace: api.MaxId, Id: 1}} },
		func(s *api.Span) { s.Links = []api.Ref{span.RefOf(*s)} },
	} {
		expectErr(t, fmt.Sprint("Check of the change ", k), span.Check(with(change)), api.OK)
	}
}

// P11.5.
func TestTimes(t *testing.T) {
	s := ordinary()
	expectInt(t, "Duration", span.Duration(s), 100)
	expectInt(t, "At", span.At(s, false), -10)
	expectInt(t, "At", span.At(s, true), 90)
	s.Start, s.End = -api.MaxTime, 0
	expectInt(t, "Duration", span.Duration(s), api.MaxTime)
	s.End = s.Start
	expectInt(t, "Duration", span.Duration(s), 0)
	s.Start, s.End = math.MaxInt, math.MinInt
	expectInt(t, "At", span.At(s, false), math.MaxInt)
	expectInt(t, "At", span.At(s, true), math.MinInt)
}

// P11.5: Blocks, for kinds that there are not, too.
func TestBlocks(t *testing.T) {
	for kind, want := range map[int]bool{
		api.Internal: true, api.Client: true, api.Server: true, api.Producer: true, api.Consumer: false,
		0: true, 6: true, -1: true, math.MaxInt: true,
	} {
		if got := span.Blocks(api.Span{Kind: kind}); got != want {
			t.Errorf("Blocks of the kind %d: %v", kind, got)
		}
	}
}

// P11.6, and the first example of the document.
func TestSlots(t *testing.T) {
	for _, c := range []struct{ trace, slot, partition int }{
		{3<<20 + 5, 3, 0},
		{1 << 24, 16, 1},
		{1<<24 - 1, 15, 0},
		{0, 0, 0},
		{1, 0, 0},
		{1<<20 - 1, 0, 0},
		{1 << 20, 1, 0},
		{api.MaxId, api.MaxSlot, api.MaxSlot / 16},
		{-1, -1, -1},
		{-1 << 20, -1, -1},
		{-1<<20 - 1, -2, -1},
		{-1 << 24, -16, -1},
		{-1<<24 - 1, -17, -2},
		{math.MaxInt, 1<<43 - 1, 1<<39 - 1},
		{math.MinInt, -1 << 43, -1 << 39},
	} {
		expectInt(t, fmt.Sprint("Slot of ", c.trace), span.Slot(c.trace), c.slot)
		expectInt(t, fmt.Sprint("Partition of ", c.trace), span.Partition(c.trace), c.partition)
	}
}

// P11.6: the definition, for many traces.
func TestSlotsOfMany(t *testing.T) {
	random := rand.New(rand.NewSource(1))
	for range 2000 {
		trace := random.Intn(1<<50) - 1<<49
		slot, partition := span.Slot(trace), span.Partition(trace)
		if slot<<api.SlotBits > trace || (slot+1)<<api.SlotBits <= trace {
			t.Errorf("Slot(%d) = %d", trace, slot)
		}
		if partition<<api.PartitionBits > slot || (partition+1)<<api.PartitionBits <= slot {
			t.Errorf("Partition(%d) = %d", trace, partition)
		}
	}
}

// P11.7.
func TestKinds(t *testing.T) {
	for kind, want := range map[int]string{
		api.Internal: "internal", api.Client: "client", api.Server: "server", api.Producer: "producer", api.Consumer: "consumer",
	} {
		name, e := span.KindName(kind)
		if name != want || e != api.OK {
			t.Errorf("KindName(%d): %q, %d", kind, name, e)
		}
		got, e := span.ParseKind(want)
		if got != kind || e != api.OK {
			t.Errorf("ParseKind(%q): %d, %d", want, got, e)
		}
	}
	for _, kind := range []int{0, 6, 7, -1, math.MaxInt, math.MinInt} {
		name, e := span.KindName(kind)
		if name != "" || e != api.ErrKind {
			t.Errorf("KindName(%d): %q, %d", kind, name, e)
		}
	}
	for _, name := range []string{"", "Server", "serve", "servers", " server", "internal\x00", "\xff"} {
		kind, e := span.ParseKind(name)
		if kind != 0 || e != api.ErrUnknown {
			t.Errorf("ParseKind(%q): %d, %d", name, kind, e)
		}
	}
}
