package retention

import (
	"cmp"
	"maps"
	"slices"

	"sleuth/api"
	"sleuth/assembly"
	"sleuth/sampling"
	"sleuth/span"
)

// group is a service in a partition.
type group struct {
	partition int
	service   string
}

// count is how many spans were removed, and how many of them have an error.
type count struct{ spans, errors int }

// Keeper is spans under a policy. Its zero value is a keeper without records under the zero policy, which is valid.
type Keeper struct {
	policy Policy
	now    int
	// The records by their partitions, each of which has some.
	records map[int]*assembly.Assembler
	// The weights of the traces that are retained.
	weights map[int]int
	removed map[group]count
	// How many records were late, by their partitions.
	late map[int]int
}

// New returns an empty keeper.
func New(p Policy) (*Keeper, api.Errno) {
	if e := Check(p); e != api.OK {
		return nil, e
	}
	return &Keeper{policy: clone(p)}, api.OK
}

// prepare makes the maps that are missing.
func (k *Keeper) prepare() {
	if k.records == nil {
		k.records, k.weights = map[int]*assembly.Assembler{}, map[int]int{}
		k.removed, k.late = map[group]count{}, map[int]int{}
	}
}

// Add adds records, and returns how many were late.
func (k *Keeper) Add(l []api.Span) (int, api.Errno) {
	if k == nil {
		return 0, api.ErrArgument
	}
	for _, s := range l {
		if e := span.Check(s); e != api.OK {
			return 0, e
		}
	}
	k.prepare()
	late := 0
	kept := map[int][]api.Span{}
	for _, s := range l {
		partition := span.Partition(s.Trace)
		if !k.isWelcome(s.Trace) {
			k.late[partition]++
			late++
			continue
		}
		kept[partition] = append(kept[partition], s)
		if !k.Has(s.Trace) {
			k.weights[s.Trace] = 1
		}
	}
	for partition, records := range kept {
		k.keep(partition, records)
	}
	return late, api.OK
}

// isWelcome reports whether records of a trace are kept.
func (k *Keeper) isWelcome(trace int) bool {
	return k.Has(trace) || Tier(k.policy, k.now, span.Partition(trace)) == TierFull
}

// keep adds valid records to those of a partition.
func (k *Keeper) keep(partition int, l []api.Span) {
	if k.records[partition] == nil {
		k.records[partition] = assembly.New()
	}
	k.records[partition].Add(l)
}

// Apply applies the policy at a slot, and returns how many traces were removed.
func (k *Keeper) Apply(slot int) (int, api.Errno) {
	switch {
	case k == nil:
		return 0, api.ErrArgument
	case slot < 0 || slot > api.MaxSlot:
		return 0, api.ErrTime
	case slot < k.now:
		return 0, api.ErrOrder
	}
	before := k.now
	k.now = slot
	traces := len(k.weights)
	for _, partition := range slices.Sorted(maps.Keys(k.records)) {
		tier := Tier(k.policy, slot, partition)
		switch {
		case tier == Tier(k.policy, before, partition):
		case tier == TierSampled:
			k.sample(partition)
		default:
			k.remove(partition, k.records[partition].Data())
		}
	}
	return traces - len(k.weights), api.OK
}

// sample keeps a part of the traces of a partition.
func (k *Keeper) sample(partition int) {
	// The policy and the traces are valid, so this is no error.
	kept, gone, _ := sampling.Sample(k.policy.Sampling, k.policy.Seed, k.records[partition].Data())
	for _, t := range kept {
		k.weights[t.Id] = t.Weight
	}
	k.remove(partition, gone)
}

// remove removes and counts traces of a partition, which are given with their winners.
func (k *Keeper) remove(partition int, traces []api.Trace) {
	for _, t := range traces {
		delete(k.weights, t.Id)
		for _, s := range t.Spans {
			k.count(group{partition, s.Service}, s.Error)
		}
	}
	records := k.records[partition].Records()
	delete(k.records, partition)
	rest := slices.DeleteFunc(records, func(s api.Span) bool { return !k.Has(s.Trace) })
	if len(rest) > 0 {
		k.keep(partition, rest)
	}
}

// count counts a span that is removed.
func (k *Keeper) count(g group, isFailed bool) {
	c := k.removed[g]
	c.spans++
	if isFailed {
		c.errors++
	}
	k.removed[g] = c
}

// Now returns the slot that was applied last.
func (k *Keeper) Now() int {
	if k == nil {
		return 0
	}
	return k.now
}

// Has reports whether a trace is retained.
func (k *Keeper) Has(trace int) bool { return k != nil && k.weights[trace] > 0 }

// assemblers returns the records of the partitions, in the order of their numbers.
func (k *Keeper) assemblers() []*assembly.Assembler {
	if k == nil {
		return nil
	}
	var all []*assembly.Assembler
	for _, partition := range slices.Sorted(maps.Keys(k.records)) {
		all = append(all, k.records[partition])
	}
	return all
}

// Traces returns the retained traces with their winners and weights.
func (k *Keeper) Traces() []api.Trace {
	var traces []api.Trace
	for _, x := range k.assemblers() {
		for _, t := range x.Data() {
			t.Weight = k.weights[t.Id]
			traces = append(traces, t)
		}
	}
	return traces
}

// Records returns all records in order.
func (k *Keeper) Records() []api.Span {
	var records []api.Span
	for _, x := range k.assemblers() {
		records = append(records, x.Records()...)
	}
	return records
}

// Removed returns how many spans of each partition and service were removed.
func (k *Keeper) Removed() []api.Removed {
	if k == nil {
		return nil
	}
	var all []api.Removed
	for g, c := range k.removed {
		all = append(all, api.Removed{Partition: g.partition, Service: g.service, Spans: c.spans, Errors: c.errors})
	}
	slices.SortFunc(all, func(a, b api.Removed) int {
		return cmp.Or(cmp.Compare(a.Partition, b.Partition), cmp.Compare(a.Service, b.Service))
	})
	return all
}

// Late returns how many records of each partition were late.
func (k *Keeper) Late() []api.Late {
	if k == nil {
		return nil
	}
	var all []api.Late
	for _, partition := range slices.Sorted(maps.Keys(k.late)) {
		all = append(all, api.Late{Partition: partition, Spans: k.late[partition]})
	}
	return all
}

// Retained returns the retained data, with the exchanges that are given.
func (k *Keeper) Retained(exchanges []api.Exchange) api.Retained {
	if k == nil {
		return api.Retained{}
	}
	return api.Retained{Traces: k.Traces(), Exchanges: slices.Clone(exchanges), Removed: k.Removed(), Late: k.Late()}
}

// Clone returns an independent copy.
func (k *Keeper) Clone() *Keeper {
	if k == nil {
		return nil
	}
	c := &Keeper{policy: clone(k.policy), now: k.now}
	c.prepare()
	for partition, x := range k.records {
		c.records[partition] = x.Clone()
	}
	maps.Copy(c.weights, k.weights)
	maps.Copy(c.removed, k.removed)
	maps.Copy(c.late, k.late)
	return c
}

// Equal reports whether two keepers have equal policies, the same slot, records, weights, and numbers.
func (k *Keeper) Equal(o *Keeper) bool {
	if k == nil || o == nil {
		return k == o
	}
	return k.now == o.now && isSame(k.policy, o.policy) && slices.EqualFunc(k.Records(), o.Records(), span.Equal) &&
		maps.Equal(k.weights, o.weights) && maps.Equal(k.removed, o.removed) && maps.Equal(k.late, o.late)
}
