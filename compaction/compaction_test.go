package compaction_test

import (
	"fmt"
	"math"
	"math/rand"
	"slices"
	"testing"

	"sleuth/api"
	"sleuth/block"
	"sleuth/compaction"
	"sleuth/encoding"
	"sleuth/partition"
	"sleuth/span"
)

// first is the least trace of the partition 3.
const first = 3 << (api.SlotBits + api.PartitionBits)

// record returns a valid span of a trace of the partition 3.
func record(trace, id int) api.Span {
	return api.Span{Trace: first + trace, Id: id, Clock: 1, Kind: api.Server, Service: "api", Operation: "get", Start: 10, End: 30}
}

// revised returns a later record of a span.
func revised(s api.Span, revision int) api.Span {
	s.Revision = revision
	return s
}

// numbered returns so many records from a number on.
func numbered(from, n int) []api.Span {
	var l []api.Span
	for k := range n {
		l = append(l, record((from+k)/100, (from+k)%100+1))
	}
	return l
}

// rich returns records with as many attributes as a span can have.
func rich(from, n int) []api.Span {
	l := numbered(from, n)
	for k := range l {
		for a := range api.MaxAttrs {
			l[k].Attrs = append(l[k].Attrs, api.Attr{Key: fmt.Sprintf("k%02d", a), Value: api.Value{Kind: api.KindInt, Int: k}})
		}
	}
	return l
}

// made returns the partition 3 with a block for each list. A record can be in several of them.
func made(t *testing.T, lists ...[]api.Span) *partition.Partition {
	t.Helper()
	var w encoding.Writer
	w.Number(3)
	w.Bool(false)
	w.Number(len(lists))
	for _, l := range lists {
		b, e := block.Build(l)
		if e != api.OK {
			t.Fatalf("the block of %d records: %d", len(l), e)
		}
		w.Text(b.Encode())
	}
	p, e := partition.Decode(w.Bytes())
	if e != api.OK {
		t.Fatalf("the partition of %d blocks: %d", len(lists), e)
	}
	return p
}

// sized returns the partition 3 with blocks of these sizes, which have no records in common.
func sized(t *testing.T, sizes ...int) *partition.Partition {
	t.Helper()
	var lists [][]api.Span
	from := 0
	for _, n := range sizes {
		lists = append(lists, numbered(from, n))
		from += n
	}
	return made(t, lists...)
}

// random returns the partition 3 with random blocks, some of which have records in common, and its lists.
func random(t *testing.T, rng *rand.Rand, blocks, identities int) (*partition.Partition, [][]api.Span) {
	t.Helper()
	var lists [][]api.Span
	for range blocks {
		var l []api.Span
		for range 1 + rng.Intn(1+rng.Intn(9)) {
			l = append(l, revised(record(rng.Intn(3), 1+rng.Intn(identities)), rng.Intn(3)))
		}
		lists = append(lists, l)
	}
	return made(t, lists...), lists
}

// apart returns the partition 3 with random blocks that have no records in common.
func apart(t *testing.T, rng *rand.Rand, blocks int) *partition.Partition {
	t.Helper()
	var sizes []int
	for range blocks {
		sizes = append(sizes, 1+rng.Intn(1+rng.Intn(12)))
	}
	return sized(t, sizes...)
}

// sizes returns how many rows the blocks have.
func sizes(p *partition.Partition) []int {
	var l []int
	for _, b := range p.Blocks() {
		l = append(l, b.Len())
	}
	return l
}

func expectErr(t *testing.T, what string, got, want api.Errno) {
	t.Helper()
	if got != want {
		t.Errorf("%s: the error %d, want %d", what, got, want)
	}
}

func expectSizes(t *testing.T, what string, p *partition.Partition, want ...int) {
	t.Helper()
	if got := sizes(p); !slices.Equal(got, want) {
		t.Errorf("%s: blocks of %v rows, want %v", what, got, want)
	}
}

func expectSpans(t *testing.T, what string, got, want []api.Span) {
	t.Helper()
	if !slices.EqualFunc(got, want, span.Equal) {
		t.Errorf("%s: %v, want %v", what, got, want)
	}
}

// expectNext expects a next step, or none, if its fan is 0, and that looking for it changes nothing.
func expectNext(t *testing.T, what string, p *partition.Partition, fan int, want compaction.Step) {
	t.Helper()
	before := sizes(p)
	got, ok, e := compaction.Next(p, fan)
	if got != want || ok != (want.To > 0) || e != api.OK {
		t.Errorf("%s: Next: %v, %v, %d; want %v", what, got, ok, e, want)
	}
	expectSizes(t, what+": after Next", p, before...)
}

func expectCost(t *testing.T, what string, p *partition.Partition, s compaction.Step, want int, wantErr api.Errno) {
	t.Helper()
	if got, e := compaction.Cost(p, s); got != want || e != wantErr {
		t.Errorf("%s: Cost of %v: %d, %d; want %d, %d", what, s, got, e, want, wantErr)
	}
}

func expectRun(t *testing.T, what string, p *partition.Partition, fan int, want ...compaction.Step) {
	t.Helper()
	got, e := compaction.Run(p, fan)
	if !slices.Equal(got, want) || e != api.OK {
		t.Errorf("%s: Run: %v, %d; want %v", what, got, e, want)
	}
}

// P32.1: the tier is the greatest power of the fan that is not greater than the number of rows.
func TestTier(t *testing.T) {
	for fan := 2; fan <= 16; fan++ {
		tier, power := 0, 1
		for rows := 1; rows <= 4096; rows++ {
			if rows == power*fan {
				tier, power = tier+1, power*fan
			}
			if got, e := compaction.Tier(rows, fan); got != tier || e != api.OK {
				t.Fatalf("Tier of %d rows with the fan %d: %d, %d; want %d", rows, fan, got, e, tier)
			}
		}
	}
	for _, c := range []struct{ rows, fan int }{
		{0, 2}, {-1, 2}, {4097, 2}, {math.MaxInt, 2}, {math.MinInt, 2},
		{1, 1}, {1, 0}, {1, -2}, {1, 17}, {1, math.MaxInt}, {1, math.MinInt}, {0, 0}, {4097, 17},
	} {
		if got, e := compaction.Tier(c.rows, c.fan); got != 0 || e != api.ErrRange {
			t.Errorf("Tier of %d rows with the fan %d: %d, %d; want ErrRange", c.rows, c.fan, got, e)
		}
	}
	if compaction.MinFan != 2 || compaction.MaxFan != 16 {
		t.Errorf("fans from %d to %d", compaction.MinFan, compaction.MaxFan)
	}
}

// P32.1 to P32.4: the examples of the document.
func TestExamples(t *testing.T) {
	for k, rows := range []int{1, 2, 3, 4, 9} {
		if got, _ := compaction.Tier(rows, 2); got != []int{0, 1, 1, 2, 3}[k] {
			t.Errorf("the tier of %d rows: %d", rows, got)
		}
	}
	p := sized(t, 4, 1, 1, 2)
	for _, c := range []struct {
		step compaction.Step
		cost int
		then []int
	}{
		{compaction.Step{From: 1, To: 3, Tier: 0}, 2, []int{4, 2, 2}},
		{compaction.Step{From: 1, To: 3, Tier: 1}, 4, []int{4, 4}},
		{compaction.Step{From: 0, To: 2, Tier: 2}, 8, []int{8}},
	} {
		expectNext(t, "the example", p, 2, c.step)
		expectCost(t, "the example", p, c.step, c.cost, api.OK)
		expectErr(t, "Apply", compaction.Apply(p, c.step), api.OK)
		expectSizes(t, "Apply", p, c.then...)
	}
	expectNext(t, "the end of the example", p, 2, compaction.Step{})
	expectNext(t, "the fan 4", sized(t, 4, 1, 1, 2), 4, compaction.Step{})
	expectRun(t, "the fan 4", sized(t, 4, 1, 1, 2), 4)
}

// P32.2: the step of the least tier, and of these the one of the least place.
func TestNext(t *testing.T) {
	for _, c := range []struct {
		sizes []int
		fan   int
		want  compaction.Step
	}{
		{nil, 2, compaction.Step{}},
		{[]int{5}, 2, compaction.Step{}},
		{[]int{1, 1}, 2, compaction.Step{0, 2, 0}},
		{[]int{1, 1}, 3, compaction.Step{}},
		{[]int{1, 1, 1}, 3, compaction.Step{0, 3, 0}},
		{[]int{1, 1, 1}, 2, compaction.Step{0, 2, 0}},
		{[]int{1, 2, 1}, 2, compaction.Step{}},
		{[]int{1, 2, 1, 1}, 2, compaction.Step{2, 4, 0}},
		{[]int{2, 2, 1, 1}, 2, compaction.Step{2, 4, 0}},
		{[]int{2, 3, 1, 2}, 2, compaction.Step{0, 2, 1}},
		{[]int{2, 3, 1, 2}, 3, compaction.Step{}},
		{[]int{4, 1, 2, 1}, 3, compaction.Step{1, 4, 0}},
		{[]int{4, 4, 3, 5, 9, 10, 11}, 3, compaction.Step{0, 3, 1}},
		{[]int{9, 10, 26, 3, 8}, 3, compaction.Step{0, 3, 2}},
		{[]int{8, 9, 26, 10}, 3, compaction.Step{1, 4, 2}},
		{[]int{1, 15, 1, 1, 1, 1, 1, 1, 1, 1, 1, 1, 1, 1, 1, 1, 16}, 16, compaction.Step{0, 16, 0}},
		{[]int{1, 15, 1, 1, 1, 1, 1, 1, 1, 1, 1, 1, 1, 1, 1, 16, 16}, 16, compaction.Step{}},
	} {
		what := fmt.Sprintf("blocks of %v rows and the fan %d", c.sizes, c.fan)
		expectNext(t, what, sized(t, c.sizes...), c.fan, c.want)
		p := sized(t, c.sizes...)
		p.Seal()
		expectNext(t, what+", sealed", p, c.fan, c.want)
	}
}

// P32.2: a step is not possible if the records have no room in one block.
func TestNextLimit(t *testing.T) {
	p := sized(t, 2048, 2049, 2048, 2048, 1)
	expectNext(t, "full blocks", p, 2, compaction.Step{2, 4, 11})
	expectNext(t, "full blocks", p, 3, compaction.Step{})
	expectRun(t, "full blocks", p, 2, compaction.Step{2, 4, 11})
	expectSizes(t, "Run", p, 2048, 2049, 4096, 1)
	expectNext(t, "no room behind Run", p, 2, compaction.Step{})
	// 64 records with 32 attributes each make half of a block.
	p = made(t, rich(0, 64), rich(64, 65), rich(129, 64), rich(193, 64))
	expectNext(t, "many attributes", p, 2, compaction.Step{2, 4, 6})
	expectRun(t, "many attributes", p, 2, compaction.Step{2, 4, 6})
	expectSizes(t, "Run", p, 64, 65, 128)
	// The same records twice have room in one block, even if each of the two is full.
	p = made(t, numbered(0, 4096), numbered(0, 4096))
	expectNext(t, "equal blocks", p, 2, compaction.Step{0, 2, 12})
	expectErr(t, "Apply", compaction.Apply(p, compaction.Step{From: 0, To: 2}), api.OK)
	expectSizes(t, "Apply", p, 4096)
}

// P32.3: steps of any tiers, also of sealed partitions.
func TestApply(t *testing.T) {
	for from := range 5 {
		for to := from + 1; to <= 5; to++ {
			p := sized(t, 1, 7, 2, 30, 4)
			p.Seal()
			old := sizes(p)
			sum := 0
			for _, n := range old[from:to] {
				sum += n
			}
			s := compaction.Step{From: from, To: to, Tier: 9}
			expectCost(t, "Cost", p, s, sum, api.OK)
			expectSizes(t, "Cost", p, old...)
			want := p.Clone()
			expectErr(t, "Apply", compaction.Apply(p, s), api.OK)
			expectSizes(t, "Apply", p, slices.Replace(slices.Clone(old), from, to, sum)...)
			if !p.Equal(want) || !p.Sealed() {
				t.Errorf("Apply of %v changes the records", s)
			}
		}
	}
}

// P32.3: the errors of Cost and Apply, behind which nothing has changed.
func TestApplyErrors(t *testing.T) {
	for _, c := range []struct {
		sizes    []int
		from, to int
		e        api.Errno
	}{
		{nil, 0, 0, api.ErrRange},
		{nil, 0, 1, api.ErrRange},
		{[]int{1, 2}, -1, 1, api.ErrRange},
		{[]int{1, 2}, 0, 0, api.ErrRange},
		{[]int{1, 2}, 1, 1, api.ErrRange},
		{[]int{1, 2}, 2, 2, api.ErrRange},
		{[]int{1, 2}, 1, 0, api.ErrRange},
		{[]int{1, 2}, 0, 3, api.ErrRange},
		{[]int{1, 2}, 1, 3, api.ErrRange},
		{[]int{1, 2}, math.MinInt, math.MaxInt, api.ErrRange},
		{[]int{1, 2}, 0, math.MaxInt, api.ErrRange},
		{[]int{1, 4095, 1}, 0, 3, api.ErrLimit},
		{[]int{1, 4095, 1}, 1, 3, api.OK},
		{[]int{4096, 1, 1}, 0, 2, api.ErrLimit},
		{[]int{1, 1, 4096}, 0, 3, api.ErrLimit},
	} {
		p := sized(t, c.sizes...)
		s := compaction.Step{From: c.from, To: c.to}
		what := fmt.Sprintf("Apply of %v to blocks of %v rows", s, c.sizes)
		if c.e == api.ErrRange {
			expectCost(t, what, p, s, 0, c.e)
		}
		expectErr(t, what, compaction.Apply(p, s), c.e)
		if c.e != api.OK {
			expectSizes(t, what, p, c.sizes...)
		}
	}
	expectCost(t, "too many rows", sized(t, 1, 4095, 1), compaction.Step{From: 0, To: 3}, 4097, api.OK)
	p := made(t, rich(0, 100), rich(100, 29))
	expectErr(t, "too many attributes", compaction.Apply(p, compaction.Step{From: 0, To: 2}), api.ErrLimit)
	expectSizes(t, "too many attributes", p, 100, 29)
}

// P32.4: all steps one after another.
func TestRun(t *testing.T) {
	p := sized(t, 1, 1, 1, 1, 1)
	expectRun(t, "five blocks", p, 2, compaction.Step{0, 2, 0}, compaction.Step{1, 3, 0}, compaction.Step{0, 2, 1})
	expectSizes(t, "five blocks", p, 4, 1)
	p = sized(t, 3, 1, 1, 1, 4, 2)
	expectRun(t, "the fan 3", p, 3, compaction.Step{1, 4, 0}, compaction.Step{0, 3, 1})
	expectSizes(t, "the fan 3", p, 10, 2)
	expectRun(t, "an empty partition", sized(t), 2)
	p = sized(t, slices.Repeat([]int{1}, 64)...)
	p.Seal()
	if steps, e := compaction.Run(p, 16); len(steps) != 4 || e != api.OK {
		t.Errorf("Run with the fan 16: %v, %d", steps, e)
	}
	expectSizes(t, "the fan 16", p, 16, 16, 16, 16)
}

// P32.5: all blocks become one.
func TestAll(t *testing.T) {
	for _, c := range []struct {
		sizes, want []int
		e           api.Errno
	}{
		{nil, nil, api.OK},
		{[]int{4096}, []int{4096}, api.OK},
		{[]int{7, 1}, []int{8}, api.OK},
		{[]int{1, 90, 3, 2, 500}, []int{596}, api.OK},
		{[]int{1, 4000, 95}, []int{4096}, api.OK},
		{[]int{1, 4000, 96}, []int{1, 4000, 96}, api.ErrLimit},
		{[]int{4000, 96, 1}, []int{4000, 96, 1}, api.ErrLimit},
	} {
		for _, isSealed := range []bool{false, true} {
			p := sized(t, c.sizes...)
			if isSealed {
				p.Seal()
			}
			want := p.Clone()
			expectErr(t, fmt.Sprintf("All of %v", c.sizes), compaction.All(p), c.e)
			expectSizes(t, fmt.Sprintf("All of %v", c.sizes), p, c.want...)
			if !p.Equal(want) {
				t.Errorf("All of %v changes the records", c.sizes)
			}
		}
	}
	p := made(t, numbered(0, 4096), numbered(7, 1000), numbered(3000, 1096))
	expectErr(t, "All of blocks with records in common", compaction.All(p), api.OK)
	expectSizes(t, "All of blocks with records in common", p, 4096)
}

// P32.6: the records that are no winners, in order.
func TestGarbage(t *testing.T) {
	a, b := record(0, 1), record(0, 2)
	late := a
	late.Operation = "put"
	other := record(1, 1)
	for _, c := range []struct {
		lists [][]api.Span
		want  []api.Span
	}{
		{nil, nil},
		{[][]api.Span{{a}}, nil},
		{[][]api.Span{{a, b, other}}, nil},
		{[][]api.Span{{a, b}, {a}, {b, a}}, nil},
		{[][]api.Span{{a}, {revised(a, 2)}, {revised(a, 1)}}, []api.Span{a, revised(a, 1)}},
		{[][]api.Span{{late, b}, {a, revised(b, 3)}}, []api.Span{a, b}},
		{[][]api.Span{{revised(other, 1), a, revised(b, 7)}, {other, b}}, []api.Span{b, other}},
	} {
		p := made(t, c.lists...)
		expectSpans(t, fmt.Sprintf("Garbage of %v", c.lists), compaction.Garbage(p), c.want)
		p.Seal()
		expectSpans(t, fmt.Sprintf("Garbage of %v", c.lists), compaction.Garbage(p), c.want)
	}
}

// P32.6: the amplification, rounded down.
func TestAmplification(t *testing.T) {
	a, b, c := record(0, 1), record(0, 2), revised(record(0, 2), 1)
	for _, x := range []struct {
		lists [][]api.Span
		want  int
	}{
		{nil, 1000000},
		{[][]api.Span{{a}}, 1000000},
		{[][]api.Span{{a, b}, {c}}, 1000000},
		{[][]api.Span{{a, b}, {b, c}}, 1333333},
		{[][]api.Span{{a, b, c}, {a, c}}, 1666666},
		{[][]api.Span{{a}, {a}, {a}}, 3000000},
	} {
		if got := compaction.Amplification(made(t, x.lists...)); got != x.want {
			t.Errorf("Amplification of %v: %d, want %d", x.lists, got, x.want)
		}
	}
	most := slices.Repeat([][]api.Span{numbered(0, 4096)}, 3)
	if got := compaction.Amplification(made(t, most...)); got != 3000000 {
		t.Errorf("Amplification of full blocks: %d", got)
	}
}

// nextOf returns the next step of lists of records by trying all places for each tier, or the zero step.
func nextOf(lists [][]api.Span, fan int) compaction.Step {
	for tier := range 13 {
		for from := 0; from+fan <= len(lists); from++ {
			isAll := !slices.ContainsFunc(lists[from:from+fan], func(l []api.Span) bool {
				got, _ := compaction.Tier(len(span.Set(l)), fan)
				return got != tier
			})
			if isAll && len(span.Set(slices.Concat(lists[from:from+fan]...))) <= api.MaxRecords {
				return compaction.Step{From: from, To: from + fan, Tier: tier}
			}
		}
	}
	return compaction.Step{}
}

// P32.2 to P32.4 and P32.6: random partitions, compared with lists of records.
func TestModel(t *testing.T) {
	rng := rand.New(rand.NewSource(1))
	for round := range 150 {
		p, lists := random(t, rng, rng.Intn(14), 1+rng.Intn(20))
		fan := 2 + rng.Intn(3)
		ran := p.Clone()
		var steps []compaction.Step
		for {
			want := nextOf(lists, fan)
			expectNext(t, fmt.Sprint("round ", round), p, fan, want)
			if want.To == 0 {
				break
			}
			expectErr(t, "Apply", compaction.Apply(p, want), api.OK)
			lists = slices.Replace(lists, want.From, want.To, slices.Concat(lists[want.From:want.To]...))
			steps = append(steps, want)
			for k, b := range p.Blocks() {
				expectSpans(t, "the blocks behind a step", b.Spans(), span.Set(lists[k]))
			}
		}
		expectRun(t, fmt.Sprint("round ", round), ran, fan, steps...)
		if !slices.Equal(sizes(ran), sizes(p)) {
			t.Errorf("round %d: Run leads to %v, the steps lead to %v", round, sizes(ran), sizes(p))
		}
	}
}

// P32.7: steps change neither the records nor what is told about them, and behind Run nothing is possible.
func TestConsequences(t *testing.T) {
	rng := rand.New(rand.NewSource(2))
	for range 100 {
		p, lists := random(t, rng, rng.Intn(12), 1+rng.Intn(10))
		records, spans, digest := p.Records(), p.Spans(), p.Digest()
		expectSpans(t, "all records", span.Union(compaction.Garbage(p), spans), records)
		if n := len(compaction.Garbage(p)) + len(spans); n != len(records) {
			t.Errorf("garbage and winners: %d, records: %d", n, len(records))
		}
		check := func(what string, p *partition.Partition) {
			expectSpans(t, what+": Records", p.Records(), records)
			expectSpans(t, what+": Spans", p.Spans(), spans)
			if p.Digest() != digest {
				t.Errorf("%s: another digest", what)
			}
		}
		if len(lists) > 0 {
			from := rng.Intn(len(lists))
			applied := p.Clone()
			compaction.Apply(applied, compaction.Step{From: from, To: from + 1 + rng.Intn(len(lists)-from)})
			check("Apply", applied)
		}
		whole := p.Clone()
		compaction.All(whole)
		check("All", whole)
		fan := 2 + rng.Intn(4)
		compaction.Run(p, fan)
		check("Run", p)
		expectNext(t, "behind Run", p, fan, compaction.Step{})
		before := sizes(p)
		expectRun(t, "Run again", p, fan)
		expectSizes(t, "Run again", p, before...)
	}
}

// P32.7: what steps cost if the blocks have no records in common.
func TestCosts(t *testing.T) {
	rng := rand.New(rand.NewSource(3))
	for range 100 {
		p := apart(t, rng, 1+rng.Intn(20))
		if got := compaction.Amplification(p); got != 1000000 {
			t.Errorf("the amplification is %d", got)
		}
		fan := 2 + rng.Intn(4)
		whole, e := compaction.Tier(len(p.Records()), fan)
		expectErr(t, "Tier", e, api.OK)
		sum := 0
		for {
			s, ok, _ := compaction.Next(p, fan)
			if !ok {
				break
			}
			cost, _ := compaction.Cost(p, s)
			sum += cost
			compaction.Apply(p, s)
			if tier, _ := compaction.Tier(p.Blocks()[s.From].Len(), fan); tier <= s.Tier {
				t.Errorf("%v leads to a block of the tier %d", s, tier)
			}
		}
		if sum > whole*len(p.Records()) {
			t.Errorf("the steps cost %d, the tier of %d records is %d", sum, len(p.Records()), whole)
		}
	}
}

// P1, P32.2 to P32.6: partitions that are nil or empty, and fans that are not permitted.
func TestErrors(t *testing.T) {
	for _, fan := range []int{math.MinInt, -1, 0, 1, 17, math.MaxInt, 2} {
		want := api.ErrRange
		if fan == 2 {
			want = api.OK
		}
		for _, p := range []*partition.Partition{sized(t), sized(t, 1, 1), {}} {
			before := sizes(p)
			s, ok, e := compaction.Next(p, fan)
			if e != want || e != api.OK && (s != compaction.Step{} || ok) {
				t.Errorf("Next with the fan %d: %v, %v, %d", fan, s, ok, e)
			}
			steps, e := compaction.Run(p, fan)
			if e != want || e != api.OK && (steps != nil || !slices.Equal(sizes(p), before)) {
				t.Errorf("Run with the fan %d: %v, %d", fan, steps, e)
			}
		}
		s, ok, e := compaction.Next(nil, fan)
		if (s != compaction.Step{}) || ok || e != api.ErrArgument {
			t.Errorf("Next of nil with the fan %d: %v, %v, %d", fan, s, ok, e)
		}
		steps, e := compaction.Run(nil, fan)
		if steps != nil || e != api.ErrArgument {
			t.Errorf("Run of nil with the fan %d: %v, %d", fan, steps, e)
		}
	}
	expectCost(t, "nil", nil, compaction.Step{From: -1}, 0, api.ErrArgument)
	expectErr(t, "Apply to nil", compaction.Apply(nil, compaction.Step{From: -1}), api.ErrArgument)
	expectErr(t, "All of nil", compaction.All(nil), api.ErrArgument)
	expectSpans(t, "Garbage of nil", compaction.Garbage(nil), nil)
	if n := compaction.Amplification(nil); n != 0 {
		t.Errorf("the amplification of nil: %d", n)
	}
	if n := compaction.Amplification(&partition.Partition{}); n != 1000000 {
		t.Errorf("the amplification of an empty partition: %d", n)
	}
}

// The rules of the document: results are newly allocated, and other partitions stay as they are.
func TestIndependence(t *testing.T) {
	a := record(0, 1)
	a.Attrs = []api.Attr{{Key: "k", Value: api.Value{Kind: api.KindInt, Int: 5}}}
	p := made(t, []api.Span{a, revised(a, 1)}, []api.Span{revised(a, 2)})
	l := compaction.Garbage(p)
	l[0].Attrs[0].Key, l[1].Service = "changed", "changed"
	expectSpans(t, "Garbage", compaction.Garbage(p), []api.Span{a, revised(a, 1)})
	before := p.Clone()
	blocks := p.Blocks()
	expectErr(t, "All", compaction.All(p), api.OK)
	expectSizes(t, "the copy", before, 2, 1)
	if len(blocks) != 2 || blocks[0].Len() != 2 || blocks[1].Len() != 1 {
		t.Errorf("All changes blocks: %v", blocks)
	}
}
