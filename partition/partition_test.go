package partition_test

import (
	"fmt"
	"math"
	"math/rand"
	"slices"
	"strings"
	"testing"

	"sleuth/api"
	"sleuth/block"
	"sleuth/dictionary"
	"sleuth/partition"
	"sleuth/span"
)

// first is the least trace of the partition 3, and behind the least one of the partition 4.
const (
	first  = 3 << (api.SlotBits + api.PartitionBits)
	behind = 4 << (api.SlotBits + api.PartitionBits)
)

// record returns a valid span of a trace of the partition 3.
func record(trace, id int) api.Span {
	return api.Span{Trace: first + trace, Id: id, Clock: 1, Kind: api.Server, Service: "api", Operation: "get", Start: 10, End: 30}
}

// revised returns a later record of a span.
func revised(s api.Span, revision int) api.Span {
	s.Revision = revision
	return s
}

func failed(s api.Span) api.Span {
	s.Error = true
	return s
}

// in returns the span of another service.
func in(service string, s api.Span) api.Span {
	s.Service = service
	return s
}

// numbered returns so many records.
func numbered(n int) []api.Span {
	var l []api.Span
	for k := range n {
		l = append(l, record(k/100, k%100+1))
	}
	return l
}

// random returns some records of the partition 3, some of which have the same identities, and some of which are equal.
func random(rng *rand.Rand, n int) []api.Span {
	var l []api.Span
	for range n {
		s := record(rng.Intn(3)+rng.Intn(3)<<api.SlotBits, 1+rng.Intn(3))
		s.Revision, s.Service, s.Error = rng.Intn(3), []string{"api", "db", "web"}[rng.Intn(3)], rng.Intn(2) == 0
		if rng.Intn(2) == 0 {
			s.Attrs = []api.Attr{{Key: "a", Value: api.Value{Kind: api.KindInt, Int: rng.Intn(2)}}}
		}
		l = append(l, s)
	}
	return l
}

// made returns the partition 3, and inserts lists into it.
func made(t *testing.T, lists ...[]api.Span) *partition.Partition {
	t.Helper()
	p, e := partition.New(3)
	if e != api.OK || p == nil {
		t.Fatalf("New: %v, %d", p, e)
	}
	for _, l := range lists {
		if _, e := p.Insert(l); e != api.OK {
			t.Fatalf("Insert of %d records: %d", len(l), e)
		}
	}
	return p
}

// sealed returns a sealed partition.
func sealed(p *partition.Partition) *partition.Partition {
	p.Seal()
	return p
}

// built returns the block of some records.
func built(t *testing.T, l ...api.Span) *block.Block {
	t.Helper()
	b, e := block.Build(l)
	if e != api.OK {
		t.Fatalf("the block of %d records: %d", len(l), e)
	}
	return b
}

// full returns a partition that has as many blocks as it can have.
func full(t *testing.T) *partition.Partition {
	t.Helper()
	p := made(t)
	for k := range partition.MaxBlocks {
		if n, e := p.Insert([]api.Span{record(k, 1)}); n != 1 || e != api.OK {
			t.Fatalf("Insert of the block %d: %d, %d", k, n, e)
		}
	}
	return p
}

func expectErr(t *testing.T, what string, got, want api.Errno) {
	t.Helper()
	if got != want {
		t.Errorf("%s: the error %d, want %d", what, got, want)
	}
}

func expectSpans(t *testing.T, what string, got, want []api.Span) {
	t.Helper()
	if !slices.EqualFunc(got, want, span.Equal) {
		t.Errorf("%s: %v, want %v", what, got, want)
	}
}

// expectBlocks expects that a partition has blocks with these records.
func expectBlocks(t *testing.T, what string, p *partition.Partition, want ...[]api.Span) {
	t.Helper()
	blocks := p.Blocks()
	if len(blocks) != len(want) {
		t.Fatalf("%s: %d blocks, want %d", what, len(blocks), len(want))
	}
	for k, b := range blocks {
		expectSpans(t, fmt.Sprintf("%s: the block %d", what, k), b.Spans(), want[k])
	}
}

// expectInserted expects how many records of a list are inserted.
func expectInserted(t *testing.T, p *partition.Partition, l []api.Span, want int) {
	t.Helper()
	if n, e := p.Insert(l); n != want || e != api.OK {
		t.Errorf("Insert of %v: %d, %d, want %d", l, n, e, want)
	}
}

// P31.1: a new partition, and which numbers it can have.
func TestNew(t *testing.T) {
	if partition.MaxNumber != 65536 || partition.MaxBlocks != 64 {
		t.Errorf("the limits are %d, %d", partition.MaxNumber, partition.MaxBlocks)
	}
	for _, number := range []int{0, 1, 3, partition.MaxNumber} {
		p, e := partition.New(number)
		expectErr(t, fmt.Sprint("New of ", number), e, api.OK)
		if p.Number() != number || p.Sealed() || len(p.Blocks()) != 0 || len(p.Records()) != 0 {
			t.Errorf("New of %d: the number %d, sealed %t, %d blocks", number, p.Number(), p.Sealed(), len(p.Blocks()))
		}
	}
	for _, number := range []int{-1, partition.MaxNumber + 1, math.MinInt, math.MaxInt} {
		p, e := partition.New(number)
		expectErr(t, fmt.Sprint("New of ", number), e, api.ErrRange)
		if p != nil {
			t.Errorf("New of %d: %v", number, p)
		}
	}
}

// P31.1, P31.2: the first and the last partition have traces.
func TestBorders(t *testing.T) {
	for number, trace := range map[int]int{0: 1, 3: first, partition.MaxNumber: api.MaxId} {
		p, _ := partition.New(number)
		s := record(0, 1)
		s.Trace = trace
		expectInserted(t, p, []api.Span{s}, 1)
	}
}

// P31.2: the first example of the document, and what a partition has already.
func TestInsert(t *testing.T) {
	a, b, c := record(0, 1), record(0, 2), record(1, 1)
	p := made(t)
	expectInserted(t, p, []api.Span{b, a}, 2)
	expectInserted(t, p, []api.Span{b, c}, 1)
	expectBlocks(t, "a, b and b, c", p, []api.Span{a, b}, []api.Span{c})
	expectInserted(t, p, []api.Span{c, a, b, a}, 0)
	expectInserted(t, p, nil, 0)
	expectInserted(t, p, []api.Span{revised(a, 1), revised(a, 1), a, revised(a, 2), c}, 2)
	expectBlocks(t, "with revisions", p, []api.Span{a, b}, []api.Span{c}, []api.Span{revised(a, 1), revised(a, 2)})
}

// P31.2: records that differ only in one field are different.
func TestInsertFields(t *testing.T) {
	a := record(0, 1)
	a.Attrs, a.Links = []api.Attr{{Key: "a", Value: api.Value{Kind: api.KindString}}}, []api.Ref{{Trace: 1, Id: 1}}
	p := made(t, []api.Span{a})
	for k, change := range []func(s *api.Span){
		func(s *api.Span) { s.Trace++ },
		func(s *api.Span) { s.Id++ },
		func(s *api.Span) { s.Parent++ },
		func(s *api.Span) { s.Clock++ },
		func(s *api.Span) { s.Kind++ },
		func(s *api.Span) { s.Service = "other" },
		func(s *api.Span) { s.Version = "v1" },
		func(s *api.Span) { s.Operation = "put" },
		func(s *api.Span) { s.Start++ },
		func(s *api.Span) { s.End++ },
		func(s *api.Span) { s.Error = true },
		func(s *api.Span) { s.Attrs = nil },
		func(s *api.Span) { s.Links = nil },
	} {
		changed := a
		change(&changed)
		expectInserted(t, p, []api.Span{a, changed}, 1)
		if len(p.Blocks()) != k+2 {
			t.Errorf("the change %d: %d blocks", k, len(p.Blocks()))
		}
		expectInserted(t, p, []api.Span{a, changed}, 0)
	}
	a.Attrs, a.Links = []api.Attr{}, []api.Ref{}
	expectInserted(t, p, []api.Span{a}, 1)
	a.Attrs, a.Links = nil, nil
	expectInserted(t, p, []api.Span{a}, 0)
}

// P31.2: each error of Insert, and which one comes first. Nothing changes then.
func TestInsertErrors(t *testing.T) {
	nameless, other, before := record(0, 9), record(0, 9), record(0, 9)
	nameless.Service, other.Trace, before.Trace = "", behind, first-1
	long := record(0, 9)
	long.Attrs = []api.Attr{{Key: "a", Value: api.Value{Kind: api.KindString, Text: strings.Repeat("x", dictionary.MaxString+1)}}}
	many := func(n int) []api.Span {
		var l []api.Span
		for k := range n {
			s := record(k, 9)
			for j := range api.MaxAttrs {
				s.Attrs = append(s.Attrs, api.Attr{Key: fmt.Sprintf("k%02d", j), Value: api.Value{Kind: api.KindInt}})
			}
			l = append(l, s)
		}
		return l
	}
	old := made(t, numbered(3))
	for what, c := range map[string]struct {
		p    *partition.Partition
		l    []api.Span
		want api.Errno
	}{
		"sealed":                             {sealed(old.Clone()), []api.Span{record(9, 9)}, api.ErrSealed},
		"sealed, and nothing new":            {sealed(old.Clone()), numbered(3), api.ErrSealed},
		"sealed, and nothing at all":         {sealed(old.Clone()), nil, api.ErrSealed},
		"sealed, and an invalid record":      {sealed(old.Clone()), []api.Span{nameless}, api.ErrSealed},
		"an invalid record":                  {old, []api.Span{record(9, 9), nameless, {}}, api.ErrName},
		"the zero span":                      {old, []api.Span{{}, nameless}, api.ErrRange},
		"invalid, of another partition":      {old, []api.Span{other, nameless}, api.ErrName},
		"a trace of the partition behind":    {old, []api.Span{record(9, 9), other}, api.ErrConflict},
		"a trace of the partition before":    {old, []api.Span{before, record(9, 9)}, api.ErrConflict},
		"a long text, and another partition": {old, []api.Span{long, other}, api.ErrConflict},
		"a long text":                        {old, []api.Span{record(9, 9), long}, api.ErrLong},
		"too many attributes":                {old, many(129), api.ErrLimit},
		"a long text, and many attributes":   {old, append(many(129), long), api.ErrLong},
		"too many records":                   {old, numbered(api.MaxRecords + 4), api.ErrLimit},
		"too many blocks":                    {full(t), []api.Span{record(99, 1)}, api.ErrLimit},
		"too many blocks, a long text":       {full(t), []api.Span{long}, api.ErrLong},
		"too many blocks, partition behind":  {full(t), []api.Span{other}, api.ErrConflict},
		"nil":                                {nil, []api.Span{{}}, api.ErrArgument},
	} {
		form := c.p.Encode()
		n, e := c.p.Insert(c.l)
		expectErr(t, what, e, c.want)
		if n != 0 || c.p.Encode() != form {
			t.Errorf("%s: %d records are inserted, or something has changed", what, n)
		}
	}
}

// P31.2: only the new records must have room in a block, and only they need one.
func TestInsertLimits(t *testing.T) {
	p := made(t, numbered(10))
	expectInserted(t, p, numbered(api.MaxRecords+10), api.MaxRecords)
	expectInserted(t, p, slices.Concat(numbered(api.MaxRecords+10), numbered(5)), 0)
	if len(p.Blocks()) != 2 || len(p.Records()) != api.MaxRecords+10 {
		t.Errorf("%d blocks with %d records", len(p.Blocks()), len(p.Records()))
	}
	q := full(t)
	expectInserted(t, q, []api.Span{record(0, 1), record(63, 1)}, 0)
	expectInserted(t, q, nil, 0)
	if len(q.Blocks()) != partition.MaxBlocks {
		t.Errorf("%d blocks", len(q.Blocks()))
	}
}

// P31.2: a sealed partition stays sealed.
func TestSeal(t *testing.T) {
	p := made(t, numbered(3))
	if p.Sealed() {
		t.Error("sealed too early")
	}
	for range 2 {
		p.Seal()
		if !p.Sealed() {
			t.Error("not sealed")
		}
	}
	expectSpans(t, "the records of a sealed partition", p.Records(), numbered(3))
}

// P31.3: the records of another partition.
func TestMerge(t *testing.T) {
	a, b, c := record(0, 1), record(0, 2), record(1, 1)
	p, o := made(t, []api.Span{b}, []api.Span{a}), sealed(made(t, []api.Span{c}, []api.Span{b, revised(b, 1)}))
	n, e := p.Merge(o)
	if n != 2 || e != api.OK {
		t.Errorf("Merge: %d, %d", n, e)
	}
	expectBlocks(t, "Merge", p, []api.Span{b}, []api.Span{a}, []api.Span{revised(b, 1), c})
	expectBlocks(t, "what was merged", o, []api.Span{c}, []api.Span{b, revised(b, 1)})
	for what, other := range map[string]*partition.Partition{"again": o, "itself": p, "an empty one": made(t)} {
		if n, e := p.Merge(other); n != 0 || e != api.OK || len(p.Blocks()) != 3 {
			t.Errorf("Merge of %s: %d, %d", what, n, e)
		}
	}
	if p.Sealed() {
		t.Error("Merge has sealed the partition")
	}
}

// P31.3: each error of Merge, and which one comes first.
func TestMergeErrors(t *testing.T) {
	four, _ := partition.New(4)
	big := made(t, numbered(api.MaxRecords), []api.Span{record(99, 1)})
	for what, c := range map[string]struct {
		p, o *partition.Partition
		want api.Errno
	}{
		"nil":                         {made(t), nil, api.ErrArgument},
		"of nil":                      {nil, made(t), api.ErrArgument},
		"sealed, and nil":             {sealed(made(t)), nil, api.ErrArgument},
		"another number":              {made(t), four, api.ErrConflict},
		"sealed, with another number": {sealed(made(t)), four, api.ErrConflict},
		"sealed":                      {sealed(made(t)), made(t, numbered(1)), api.ErrSealed},
		"sealed, and nothing new":     {sealed(made(t)), made(t), api.ErrSealed},
		"too many records":            {made(t), big, api.ErrLimit},
		"too many blocks":             {full(t), made(t, []api.Span{record(99, 1)}), api.ErrLimit},
	} {
		form := c.p.Encode()
		n, e := c.p.Merge(c.o)
		expectErr(t, what, e, c.want)
		if n != 0 || c.p.Encode() != form {
			t.Errorf("%s: %d records are inserted, or something has changed", what, n)
		}
	}
	if n, e := made(t, []api.Span{record(99, 1)}).Merge(big); n != api.MaxRecords || e != api.OK {
		t.Errorf("Merge of all but one: %d, %d", n, e)
	}
}

// P31.4: one block in the place of several; the second example of the document.
func TestReplace(t *testing.T) {
	a, b, c, d := record(0, 1), record(0, 2), record(1, 1), record(1, 2)
	p := made(t, []api.Span{a, b}, []api.Span{c})
	expectErr(t, "Replace by a and b", p.Replace(0, 2, built(t, a, b)), api.ErrConflict)
	expectBlocks(t, "Replace by a and b", p, []api.Span{a, b}, []api.Span{c})
	expectErr(t, "Replace by all", p.Replace(0, 2, built(t, a, b, c)), api.OK)
	expectBlocks(t, "Replace by all", p, []api.Span{a, b, c})

	lists := [][]api.Span{{d}, {a}, {c}, {b}}
	for what, r := range map[string]struct {
		from, to int
		want     [][]api.Span
	}{
		"the first one":  {0, 1, lists},
		"the last one":   {3, 4, lists},
		"the first ones": {0, 2, [][]api.Span{{a, d}, {c}, {b}}},
		"the inner ones": {1, 3, [][]api.Span{{d}, {a, c}, {b}}},
		"the last ones":  {1, 4, [][]api.Span{{d}, {a, b, c}}},
		"all":            {0, 4, [][]api.Span{{a, b, c, d}}},
	} {
		for _, p := range []*partition.Partition{made(t, lists...), sealed(made(t, lists...))} {
			isSealed, old, digest := p.Sealed(), p.Clone(), p.Digest()
			e := p.Replace(r.from, r.to, built(t, slices.Concat(lists[r.from:r.to]...)...))
			expectErr(t, what, e, api.OK)
			expectBlocks(t, what, p, r.want...)
			expectBlocks(t, "a copy", old, lists...)
			if p.Sealed() != isSealed || p.Digest() != digest || !p.Equal(old) {
				t.Errorf("%s: the records have changed", what)
			}
		}
	}
}

// P31.4: each error of Replace, and which one comes first.
func TestReplaceErrors(t *testing.T) {
	a, b, c := record(0, 1), record(0, 2), record(1, 1)
	p := made(t, []api.Span{a}, []api.Span{b}, []api.Span{c})
	other := b
	other.End++
	for what, r := range map[string]struct {
		p        *partition.Partition
		from, to int
		b        *block.Block
		want     api.Errno
	}{
		"nil":                       {p, 0, 1, nil, api.ErrArgument},
		"nil, and out of range":     {p, 5, 1, nil, api.ErrArgument},
		"of nil":                    {nil, 0, 1, built(t, a), api.ErrArgument},
		"before the blocks":         {p, -1, 1, built(t, a), api.ErrRange},
		"behind the blocks":         {p, 2, 4, built(t, c), api.ErrRange},
		"no blocks":                 {p, 1, 1, built(t), api.ErrRange},
		"no blocks at the end":      {p, 3, 3, built(t), api.ErrRange},
		"backwards":                 {p, 2, 1, built(t), api.ErrRange},
		"of an empty partition":     {made(t), 0, 1, built(t), api.ErrRange},
		"none of an empty one":      {made(t), 0, 0, built(t), api.ErrRange},
		"great numbers":             {p, 0, math.MaxInt, built(t, a), api.ErrRange},
		"small numbers":             {p, math.MinInt, 1, built(t, a), api.ErrRange},
		"an empty block":            {p, 0, 1, built(t), api.ErrConflict},
		"a record too few":          {p, 0, 2, built(t, a), api.ErrConflict},
		"a record too many":         {p, 0, 2, built(t, a, b, c), api.ErrConflict},
		"another record":            {p, 0, 2, built(t, a, c), api.ErrConflict},
		"a record with other times": {p, 0, 2, built(t, a, other), api.ErrConflict},
	} {
		form := r.p.Encode()
		expectErr(t, what, r.p.Replace(r.from, r.to, r.b), r.want)
		if r.p.Encode() != form {
			t.Errorf("%s: something has changed", what)
		}
	}
}

// P31.5: a partition without some traces.
func TestWithout(t *testing.T) {
	a, b, c, d := record(0, 1), record(0, 2), record(1, 1), record(2, 1)
	lists := [][]api.Span{{a, c}, {b, revised(b, 1)}, {d}}
	for _, p := range []*partition.Partition{made(t, lists...), sealed(made(t, lists...))} {
		for what, r := range map[string]struct {
			traces []int
			want   [][]api.Span
		}{
			"no traces":     {nil, lists},
			"the first one": {[]int{first}, [][]api.Span{{c}, {d}}},
			"the second":    {[]int{first + 1, first + 1}, [][]api.Span{{a}, {b, revised(b, 1)}, {d}}},
			"the last one":  {[]int{first + 2}, [][]api.Span{{a, c}, {b, revised(b, 1)}}},
			"two":           {[]int{first + 2, first}, [][]api.Span{{c}}},
			"all":           {[]int{first + 2, first, first + 1}, nil},
		} {
			rest, e := p.Without(r.traces)
			expectErr(t, what, e, api.OK)
			expectBlocks(t, what, rest, r.want...)
			if rest.Number() != 3 || rest.Sealed() != p.Sealed() {
				t.Errorf("%s: the number %d, sealed %t", what, rest.Number(), rest.Sealed())
			}
			expectBlocks(t, "the partition itself", p, lists...)
		}
	}
}

// P31.5: traces without records.
func TestWithoutErrors(t *testing.T) {
	var none *partition.Partition
	p := made(t, []api.Span{record(0, 1)}, []api.Span{record(2, 1)})
	for what, c := range map[string]struct {
		p      *partition.Partition
		traces []int
		want   api.Errno
	}{
		"between":                {p, []int{first + 1}, api.ErrNotFound},
		"one of two":             {p, []int{first, first + 3}, api.ErrNotFound},
		"of another partition":   {p, []int{behind, first}, api.ErrNotFound},
		"no id":                  {p, []int{0}, api.ErrNotFound},
		"of an empty partition":  {made(t), []int{first}, api.ErrNotFound},
		"of nil":                 {none, []int{first}, api.ErrArgument},
		"of nil, without traces": {none, nil, api.ErrArgument},
	} {
		rest, e := c.p.Without(c.traces)
		expectErr(t, what, e, c.want)
		if rest != nil {
			t.Errorf("%s: %d blocks", what, len(rest.Blocks()))
		}
	}
}

// P31.9: copies are independent.
func TestClone(t *testing.T) {
	lists := [][]api.Span{{record(0, 1)}, {record(0, 2)}, {record(0, 3)}}
	p := made(t, lists...)
	c := p.Clone()
	expectInserted(t, p, []api.Span{record(1, 1)}, 1)
	expectInserted(t, c, []api.Span{record(2, 1)}, 1)
	expectErr(t, "Replace", c.Replace(0, 2, built(t, record(0, 1), record(0, 2))), api.OK)
	c.Seal()
	expectBlocks(t, "the partition", p, append(slices.Clone(lists), []api.Span{record(1, 1)})...)
	expectBlocks(t, "the copy", c, []api.Span{record(0, 1), record(0, 2)}, []api.Span{record(0, 3)}, []api.Span{record(2, 1)})
	if p.Sealed() || p.Number() != 3 || c.Number() != 3 || !c.Clone().Sealed() {
		t.Error("Clone")
	}
}

// P31.9: partitions are equal if they have the same number and records, and are both sealed, or both not.
func TestEqual(t *testing.T) {
	a, b, c := record(0, 1), record(0, 2), record(1, 1)
	four, _ := partition.New(4)
	different := []*partition.Partition{
		made(t), four, sealed(made(t)), made(t, []api.Span{a, b, c}), sealed(made(t, []api.Span{a, b, c})),
		made(t, []api.Span{a, b}), made(t, []api.Span{a, revised(b, 1), c}), made(t, []api.Span{a, b, c, revised(b, 1)}), nil,
	}
	for i, p := range different {
		for j, o := range different {
			if p.Equal(o) != (i == j) {
				t.Errorf("Equal of %d and %d: %t", i, j, p.Equal(o))
			}
		}
	}
	if !made(t, []api.Span{c}, []api.Span{b, a}).Equal(different[3]) || !different[3].Equal(different[3].Clone()) {
		t.Error("Equal of the same records in other blocks")
	}
}

// P31.1 to P31.9: a nil partition.
func TestNil(t *testing.T) {
	var p *partition.Partition
	p.Seal()
	if p.Sealed() || p.Number() != 0 || p.Blocks() != nil || p.Records() != nil || p.Spans() != nil || p.Traces() != nil || p.Count() != nil {
		t.Error("a nil partition has something")
	}
	if p.Scan(api.Interval{From: 0, To: 99}, api.Pred{}) != nil || p.Digest() != 0 || p.Encode() != "" || p.Clone() != nil {
		t.Error("a nil partition has something")
	}
	if !p.Equal(nil) || p.Equal(made(t)) || made(t).Equal(p) {
		t.Error("Equal of a nil partition")
	}
}

// P1: the zero value is the empty partition with the number 0.
func TestZeroValue(t *testing.T) {
	p := &partition.Partition{}
	zero, _ := partition.New(0)
	if !p.Equal(zero) || p.Encode() != zero.Encode() {
		t.Error("the zero value differs from New of 0")
	}
	s := record(0, 1)
	s.Trace = 1
	expectInserted(t, p, []api.Span{s}, 1)
}
