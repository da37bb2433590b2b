package block_test

import (
	"fmt"
	"math"
	"math/rand"
	"reflect"
	"slices"
	"strings"
	"testing"

	"sleuth/api"
	"sleuth/bitmap"
	"sleuth/block"
	"sleuth/dictionary"
	"sleuth/span"
)

// record returns a valid span.
func record(trace, id int) api.Span {
	return api.Span{Trace: trace, Id: id, Clock: 1, Kind: api.Server, Service: "api", Operation: "get", Start: 10, End: 30}
}

// with returns a span with attributes.
func with(s api.Span, l ...api.Attr) api.Span {
	s.Attrs = l
	return s
}

// linked returns a span with links.
func linked(s api.Span, l ...api.Ref) api.Span {
	s.Links = l
	return s
}

func text(key, s string) api.Attr {
	return api.Attr{Key: key, Value: api.Value{Kind: api.KindString, Text: s}}
}

func number(key string, n int) api.Attr {
	return api.Attr{Key: key, Value: api.Value{Kind: api.KindInt, Int: n}}
}

func truth(key string, n int) api.Attr {
	return api.Attr{Key: key, Value: api.Value{Kind: api.KindBool, Int: n}}
}

// several returns so many attributes, and refs so many links.
func several(n int) []api.Attr {
	var l []api.Attr
	for k := range n {
		l = append(l, number(fmt.Sprintf("k%02d", k), k))
	}
	return l
}

func refs(n int) []api.Ref {
	var l []api.Ref
	for k := range n {
		l = append(l, api.Ref{Trace: 1, Id: k + 1})
	}
	return l
}

// numbered returns so many records, which are changed by a function.
func numbered(n int, change func(s api.Span) api.Span) []api.Span {
	var l []api.Span
	for k := range n {
		l = append(l, change(record(k/100+1, k%100+1)))
	}
	return l
}

func same(s api.Span) api.Span { return s }

// mixed returns records that differ in all fields, in order.
func mixed() []api.Span {
	return []api.Span{
		{Trace: 1, Id: 2, Parent: 0, Revision: 0, Clock: 3, Kind: api.Client, Service: "web", Operation: "get", Start: -50, End: -50,
			Attrs: []api.Attr{number("count", -7), text("region", "eu")}},
		{Trace: 1, Id: 2, Parent: 0, Revision: 4, Clock: 3, Kind: api.Client, Service: "web", Version: "v1", Operation: "get", Start: -50, End: 100, Error: true,
			Attrs: []api.Attr{number("count", 0), text("region", ""), truth("retry", 1)}, Links: []api.Ref{{Trace: 9, Id: 1}}},
		{Trace: 1, Id: 3, Parent: 2, Clock: 7, Kind: api.Server, Service: "api", Version: "v2", Operation: "get/user", Start: 0, End: 8},
		{Trace: 5 << api.SlotBits, Id: 1, Parent: 1, Clock: 7, Kind: api.Consumer, Service: "api", Operation: "put", Start: api.MaxTime, End: api.MaxTime,
			Attrs: []api.Attr{truth("retry", 0)}, Links: []api.Ref{{Trace: 1, Id: 2}, {Trace: 1, Id: 3}, {Trace: api.MaxId, Id: api.MaxId}}},
		{Trace: api.MaxId, Id: api.MaxId, Parent: api.MaxId, Revision: api.MaxSmall, Clock: api.MaxSmall, Kind: api.Internal, Service: "a", Version: "a", Operation: "a",
			Start: -api.MaxTime, End: 0, Error: true, Attrs: []api.Attr{text("region", "us")}},
	}
}

// random returns some records, some of which have the same identities, and some of which are equal.
func random(rng *rand.Rand, n int) []api.Span {
	names := []string{"a", "api", "db", "web"}
	var l []api.Span
	for range n {
		s := record((1+rng.Intn(3))<<(rng.Intn(3)*10), 1+rng.Intn(3))
		s.Revision, s.Parent, s.Clock, s.Kind = rng.Intn(2), rng.Intn(3), 1+rng.Intn(4), 1+rng.Intn(5)
		s.Service, s.Version, s.Operation = names[rng.Intn(4)], []string{"", "v1", "v2"}[rng.Intn(3)], names[rng.Intn(2)]
		s.Start = rng.Intn(9) - 4
		s.End, s.Error = s.Start+rng.Intn(5), rng.Intn(2) == 0
		for _, key := range names[:rng.Intn(4)] {
			values := []api.Attr{text(key, names[rng.Intn(4)]), text(key, ""), number(key, rng.Intn(3)), truth(key, rng.Intn(2))}
			s.Attrs = append(s.Attrs, values[rng.Intn(4)])
		}
		s.Links = refs(rng.Intn(4))
		l = append(l, s)
	}
	return l
}

// made returns the block of some records.
func made(t *testing.T, l ...api.Span) *block.Block {
	t.Helper()
	b, e := block.Build(l)
	if e != api.OK || b == nil {
		t.Fatalf("Build of %d records: %v, %d", len(l), b, e)
	}
	return b
}

// rows returns the bitmap of some rows.
func rows(t *testing.T, l ...int) bitmap.Bitmap {
	t.Helper()
	b, e := bitmap.Of(l...)
	if e != api.OK {
		t.Fatalf("the rows %v: %d", l, e)
	}
	return b
}

func expectErr(t *testing.T, what string, got, want api.Errno) {
	t.Helper()
	if got != want {
		t.Errorf("%s: the error %d, want %d", what, got, want)
	}
}

func expectSpans(t *testing.T, what string, got, want []api.Span) {
	t.Helper()
	if !slices.EqualFunc(got, want, span.Equal) {
		t.Errorf("%s: %v, want %v", what, got, want)
	}
}

func expectRows(t *testing.T, what string, got bitmap.Bitmap, want ...int) {
	t.Helper()
	if !slices.Equal(got.Rows(), want) {
		t.Errorf("%s: the rows %v, want %v", what, got.Rows(), want)
	}
}

// expectNone expects that there is no block, but an error.
func expectNone(t *testing.T, what string, b *block.Block, got, want api.Errno) {
	t.Helper()
	if b != nil {
		t.Errorf("%s: a block of %d rows", what, b.Len())
	}
	expectErr(t, what, got, want)
}

// P29.1: the rows are the records in order, each once, with all their fields.
func TestBuild(t *testing.T) {
	want := mixed()
	l := []api.Span{want[3], want[1], want[4], want[1], want[0], want[2], want[3]}
	b := made(t, l...)
	if b.Len() != 5 {
		t.Errorf("Len: %d, want 5", b.Len())
	}
	expectSpans(t, "Spans", b.Spans(), want)
	for row, s := range want {
		got, isRow := b.At(row)
		if !isRow || !span.Equal(got, s) {
			t.Errorf("At of %d: %v, %t, want %v", row, got, isRow, s)
		}
	}
	for _, row := range []int{-1, 5, 6, math.MinInt, math.MaxInt} {
		if got, isRow := b.At(row); isRow || !reflect.DeepEqual(got, api.Span{}) {
			t.Errorf("At of %d: %v, %t", row, got, isRow)
		}
	}
}

// P29.1: spans without attributes and links are given back as they were.
func TestBuildPlain(t *testing.T) {
	s := record(5, 2)
	if got := made(t, s).Spans(); !reflect.DeepEqual(got, []api.Span{s}) {
		t.Errorf("Spans: %#v, want %#v", got, s)
	}
}

// P29.1: a block can be empty.
func TestEmpty(t *testing.T) {
	for _, l := range [][]api.Span{nil, {}} {
		b := made(t, l...)
		_, isRow := b.At(0)
		got, e := b.Rows(bitmap.Bitmap{})
		if b.Len() != 0 || len(b.Spans()) != 0 || isRow || len(got) != 0 || e != api.OK {
			t.Errorf("an empty block: %d rows, the spans %v", b.Len(), b.Spans())
		}
	}
}

// P29.1: the greatest blocks.
func TestGreatest(t *testing.T) {
	for what, l := range map[string][]api.Span{
		"records":    numbered(api.MaxRecords, same),
		"attributes": numbered(128, func(s api.Span) api.Span { return with(s, several(32)...) }),
		"links":      numbered(256, func(s api.Span) api.Span { return linked(s, refs(16)...) }),
		"texts":      {with(record(1, 1), text("a", strings.Repeat("x", dictionary.MaxString)))},
		"both": numbered(128, func(s api.Span) api.Span {
			return linked(with(s, several(32)...), refs(16)...)
		}),
		"different texts": numbered(128, func(s api.Span) api.Span {
			for k := range 32 {
				s.Attrs = append(s.Attrs, text(fmt.Sprintf("k%02d.%d.%d", k, s.Trace, s.Id), fmt.Sprint(s.Trace, s.Id, k)))
			}
			return s
		}),
	} {
		b := made(t, l...)
		expectSpans(t, what, b.Spans(), l)
		decoded, e := block.Decode(b.Encode())
		expectErr(t, what, e, api.OK)
		if !b.Equal(decoded) {
			t.Errorf("%s: not decoded", what)
		}
	}
}

// P29.1: each error of Build, and which one comes first.
func TestBuildErrors(t *testing.T) {
	long := with(record(1, 1), text("a", strings.Repeat("x", dictionary.MaxString+1)))
	nameless, backwards := record(1, 2), record(1, 3)
	nameless.Service, backwards.End = "", backwards.Start-1
	attrs := numbered(129, func(s api.Span) api.Span { return with(s, several(32)...) })
	links := numbered(257, func(s api.Span) api.Span { return linked(s, refs(16)...) })
	for what, c := range map[string]struct {
		l    []api.Span
		want api.Errno
	}{
		"too many records":              {numbered(api.MaxRecords+1, same), api.ErrLimit},
		"too many equal records":        {slices.Repeat([]api.Span{record(1, 1)}, api.MaxRecords+1), api.ErrLimit},
		"too many and invalid":          {append(numbered(api.MaxRecords, same), nameless), api.ErrLimit},
		"the zero span":                 {[]api.Span{{}}, api.ErrRange},
		"a service without a name":      {[]api.Span{record(1, 1), nameless}, api.ErrName},
		"the first invalid one":         {[]api.Span{record(1, 1), backwards, nameless}, api.ErrOrder},
		"a long text":                   {[]api.Span{record(3, 3), long}, api.ErrLong},
		"a long text behind another":    {[]api.Span{with(record(3, 3), text("a", "x"), long.Attrs[0])}, api.ErrOrder},
		"the second text is long":       {[]api.Span{with(record(3, 3), text("Z", "x"), long.Attrs[0])}, api.ErrLong},
		"invalid behind a long text":    {[]api.Span{long, nameless}, api.ErrName},
		"too many attributes":           {attrs, api.ErrLimit},
		"a long text, and too many":     {append([]api.Span{long}, attrs...), api.ErrLong},
		"too many links":                {links, api.ErrLimit},
		"one attribute too many":        {append(slices.Clone(attrs[:128]), with(record(99, 1), truth("x", 1))), api.ErrLimit},
		"one link too many":             {append(slices.Clone(links[:256]), linked(record(99, 1), api.Ref{Trace: 1, Id: 1})), api.ErrLimit},
		"more attributes of one span":   {[]api.Span{with(record(1, 1), several(33)...)}, api.ErrLimit},
		"a text that no value can have": {[]api.Span{with(record(1, 1), text("a", strings.Repeat("x", api.MaxText+1)))}, api.ErrLong},
	} {
		b, e := block.Build(c.l)
		expectNone(t, what, b, e, c.want)
	}
}

// P29.1: only the attributes and links of the set are counted.
func TestBuildCountsSet(t *testing.T) {
	l := numbered(128, func(s api.Span) api.Span { return linked(with(s, several(32)...), refs(16)...) })
	expectSpans(t, "all of them three times", made(t, slices.Concat(l, l, l)...).Spans(), l)
}

// P29.1: the spans of some rows.
func TestRows(t *testing.T) {
	want := mixed()
	b := made(t, want...)
	for _, c := range [][]int{{}, {0}, {4}, {0, 4}, {1, 2, 3}, {0, 1, 2, 3, 4}} {
		var l []api.Span
		for _, row := range c {
			l = append(l, want[row])
		}
		got, e := b.Rows(rows(t, c...))
		expectErr(t, fmt.Sprint("Rows of ", c), e, api.OK)
		expectSpans(t, fmt.Sprint("Rows of ", c), got, l)
	}
	for _, c := range [][]int{{5}, {0, 5}, {4, 5}, {bitmap.MaxRow - 1}} {
		got, e := b.Rows(rows(t, c...))
		expectErr(t, fmt.Sprint("Rows of ", c), e, api.ErrRange)
		if got != nil {
			t.Errorf("Rows of %v: %v", c, got)
		}
	}
}

// P29.7: the block with the records of both.
func TestMerge(t *testing.T) {
	l := mixed()
	for _, c := range []struct{ a, b, want []api.Span }{
		{nil, nil, nil},
		{l, nil, l},
		{l[:2], l[2:], l},
		{l[1:4], l[:3], l[:4]},
		{[]api.Span{l[0], l[2], l[4]}, []api.Span{l[1], l[3]}, l},
		{l, l, l},
	} {
		m, e := block.Merge(made(t, c.a...), made(t, c.b...))
		expectErr(t, "Merge", e, api.OK)
		expectSpans(t, "Merge", m.Spans(), c.want)
	}
}

// P29.7: what cannot be merged. Records that both have count once.
func TestMergeErrors(t *testing.T) {
	full := made(t, numbered(api.MaxRecords, same)...)
	attrs := made(t, numbered(128, func(s api.Span) api.Span { return with(s, several(32)...) })...)
	links := made(t, numbered(256, func(s api.Span) api.Span { return linked(s, refs(16)...) })...)
	for what, c := range map[string]struct {
		a, b *block.Block
		want api.Errno
	}{
		"nil first":            {nil, full, api.ErrArgument},
		"nil second":           {full, nil, api.ErrArgument},
		"both nil":             {nil, nil, api.ErrArgument},
		"too many records":     {full, made(t, record(99, 1)), api.ErrLimit},
		"too many attributes":  {attrs, made(t, with(record(99, 1), truth("x", 1))), api.ErrLimit},
		"too many links":       {links, made(t, linked(record(99, 1), api.Ref{Trace: 1, Id: 1})), api.ErrLimit},
		"too many, first less": {made(t, record(99, 1)), full, api.ErrLimit},
	} {
		m, e := block.Merge(c.a, c.b)
		expectNone(t, what, m, e, c.want)
	}
	for what, b := range map[string]*block.Block{"records": full, "attributes": attrs, "links": links} {
		m, e := block.Merge(b, b)
		expectErr(t, what, e, api.OK)
		if !m.Equal(b) {
			t.Errorf("%s merged with themselves: %d rows", what, m.Len())
		}
	}
}

// P29.7: blocks are equal if they have the same records.
func TestEqual(t *testing.T) {
	l := mixed()
	blocks := []*block.Block{made(t), made(t, l...), made(t, l[1:]...), made(t, l[0]), made(t, l[1])}
	for k := range l {
		changed := slices.Clone(l)
		changed[k].Operation = "other"
		blocks = append(blocks, made(t, changed...))
	}
	blocks = append(blocks, nil)
	for i, a := range blocks {
		for j, b := range blocks {
			if a.Equal(b) != (i == j) {
				t.Errorf("Equal of the blocks %d and %d: %t", i, j, a.Equal(b))
			}
		}
	}
	if a, b := made(t, l...), made(t, l...); !a.Equal(b) {
		t.Error("Equal of two blocks with the same records")
	}
}

// P29.8: a block does not depend on the order of a list, nor on repetitions; merging is commutative, and is a union.
func TestSets(t *testing.T) {
	rng := rand.New(rand.NewSource(29))
	for round := range 300 {
		l, other := random(rng, round%20), random(rng, rng.Intn(20))
		b, o := made(t, l...), made(t, other...)
		shuffled := slices.Concat(l, l[:len(l)/2])
		rng.Shuffle(len(shuffled), func(i, j int) { shuffled[i], shuffled[j] = shuffled[j], shuffled[i] })
		if c := made(t, shuffled...); !b.Equal(c) || b.Encode() != c.Encode() {
			t.Fatalf("the order or repetitions of %v matter", l)
		}
		expectSpans(t, "Spans", b.Spans(), span.Set(l))
		left, e := block.Merge(b, o)
		expectErr(t, "Merge", e, api.OK)
		right, e := block.Merge(o, b)
		expectErr(t, "Merge", e, api.OK)
		expectSpans(t, "Merge", left.Spans(), span.Union(l, other))
		if !left.Equal(right) || left.Encode() != right.Encode() {
			t.Fatal("Merge is not commutative")
		}
		if self, _ := block.Merge(b, b); !self.Equal(b) {
			t.Fatal("Merge with itself changes a block")
		}
		if b.Equal(o) != (b.Encode() == o.Encode()) {
			t.Fatal("Equal and the forms of two blocks disagree")
		}
	}
}

// P29.1, contract: blocks do not change with their arguments or results, and arguments stay as they are.
func TestIndependence(t *testing.T) {
	l := []api.Span{mixed()[1], mixed()[0], mixed()[3]}
	before := fmt.Sprint(l)
	b := made(t, l...)
	form := b.Encode()
	if fmt.Sprint(l) != before {
		t.Errorf("Build has changed its argument: %v", l)
	}
	l[0].Attrs[0].Key, l[0].Links[0].Id, l[1].Service = "other", 99, "other"
	spoil := func(l []api.Span) {
		for k := range l {
			l[k].Attrs = append(l[k].Attrs, text("z", "z"))
			l[k].Attrs[0].Key, l[k].Links = "other", append(l[k].Links, api.Ref{})
			l[k].Links[0].Id = 99
		}
	}
	spoil(b.Spans())
	some, _ := b.Rows(rows(t, 0, 1))
	spoil(some)
	first, _ := b.At(0)
	spoil([]api.Span{first})
	merged, _ := block.Merge(b, b)
	spoil(merged.Spans())
	ints, _ := b.Ints("trace")
	strings, _ := b.Strings("service")
	names, _ := b.Dictionary("service")
	keys := b.Keys()
	_, values := b.Attr("count")
	projected, _ := b.Project(rows(t, 0), []api.Column{{Field: "trace"}})
	traces := b.Traces()
	ints[0], strings[0], names[0], keys[0], values[0].Int, projected[0][0].Int, traces[0] = 99, "x", "x", "x", 99, 99, 99
	if b.Encode() != form || merged.Encode() != form {
		t.Error("a block has changed")
	}
	decoded, e := block.Decode(form)
	if e != api.OK || !decoded.Equal(b) {
		t.Error("a block has changed, but its form has not")
	}
}

// P29.1 to P29.7, contract: methods of a nil block.
func TestNil(t *testing.T) {
	var b *block.Block
	s, isRow := b.At(0)
	if b.Len() != 0 || isRow || !reflect.DeepEqual(s, api.Span{}) || b.Spans() != nil || b.Keys() != nil || b.Traces() != nil || b.Encode() != "" {
		t.Error("a nil block has rows")
	}
	l, e := b.Rows(bitmap.Bitmap{})
	expectErr(t, "Rows", e, api.ErrArgument)
	ints, e := b.Ints("trace")
	expectErr(t, "Ints", e, api.ErrArgument)
	strings, e := b.Strings("service")
	expectErr(t, "Strings", e, api.ErrArgument)
	names, e := b.Dictionary("other")
	expectErr(t, "Dictionary", e, api.ErrArgument)
	projected, e := b.Project(bitmap.Bitmap{}, nil)
	expectErr(t, "Project", e, api.ErrArgument)
	if l != nil || ints != nil || strings != nil || names != nil || projected != nil {
		t.Error("a nil block has values")
	}
	with, values := b.Attr("a")
	expectRows(t, "Attr", with)
	expectRows(t, "Select", b.Select(api.Pred{}))
	expectRows(t, "Winners", b.Winners())
	if values != nil {
		t.Errorf("Attr: %v", values)
	}
	if !b.Equal(nil) || b.Equal(made(t)) || made(t).Equal(b) {
		t.Error("Equal of a nil block")
	}
}

// P1: a block that Build has not made does no harm.
func TestZeroValue(t *testing.T) {
	b := &block.Block{}
	b.At(0)
	b.Rows(rows(t, 0))
	b.Ints("trace")
	b.Strings("service")
	b.Dictionary("service")
	b.Attr("a")
	b.Project(rows(t, 0), []api.Column{{}})
	b.Select(api.Pred{Op: api.PredNot})
	b.Encode()
	if b.Len() != 0 || len(b.Spans()) != 0 || len(b.Keys()) != 0 || len(b.Traces()) != 0 || b.Winners().Len() != 0 || !b.Equal(made(t)) {
		t.Error("a block that is not made has rows")
	}
	m, e := block.Merge(b, made(t, mixed()...))
	expectErr(t, "Merge", e, api.OK)
	expectSpans(t, "Merge", m.Spans(), mixed())
}
