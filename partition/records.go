package partition

import (
	"cmp"
	"maps"
	"slices"

	"sleuth/api"
	"sleuth/block"
	"sleuth/checksum"
	"sleuth/encoding"
	"sleuth/span"
)

// Records returns all records.
func (p *Partition) Records() []api.Span {
	if p == nil {
		return nil
	}
	return recordsOf(p.blocks, isAny)
}

// isAny is the condition that each trace satisfies.
func isAny(int) bool { return true }

// recordsOf returns the records of blocks whose traces satisfy a condition, in order, each once.
func recordsOf(blocks []*block.Block, isChosen func(trace int) bool) []api.Span {
	var records []api.Span
	for _, b := range blocks {
		records = append(records, chosen(b, isChosen)...)
	}
	return span.Set(records)
}

// chosen returns the records of a block whose traces satisfy a condition.
func chosen(b *block.Block, isChosen func(trace int) bool) []api.Span {
	traces, _ := b.Ints("trace")
	var records []api.Span
	for row, trace := range traces {
		if isChosen(trace) {
			s, _ := b.At(row)
			records = append(records, s)
		}
	}
	return records
}

// ids returns the ids of the traces of all blocks.
func (p *Partition) ids() []int {
	var all []int
	for _, b := range p.blocks {
		all = append(all, b.Traces()...)
	}
	return all
}

// setOf returns the set of some numbers.
func setOf(l []int) map[int]bool {
	set := map[int]bool{}
	for _, n := range l {
		set[n] = true
	}
	return set
}

// Spans returns the winners.
func (p *Partition) Spans() []api.Span { return winnersOf(p.Records()) }

// winnersOf returns the winners of records that are in order.
func winnersOf(records []api.Span) []api.Span {
	winners := map[api.Ref]api.Span{}
	for _, s := range records {
		// The record is greater than those of the same identity before it.
		winners[span.RefOf(s)] = s
	}
	return slices.SortedFunc(maps.Values(winners), span.Compare)
}

// Traces returns the traces with their winners.
func (p *Partition) Traces() []api.Trace {
	var traces []api.Trace
	for _, s := range p.Spans() {
		last := len(traces) - 1
		if last < 0 || traces[last].Id != s.Trace {
			traces = append(traces, api.Trace{Id: s.Trace, Weight: 1})
			last++
		}
		traces[last].Spans = append(traces[last].Spans, s)
	}
	return traces
}

// Scan returns the winners of some slots that satisfy a predicate.
func (p *Partition) Scan(slots api.Interval, where api.Pred) []api.Span {
	if p == nil {
		return nil
	}
	records := recordsOf(p.blocks, func(trace int) bool {
		slot := span.Slot(trace)
		return slots.From <= slot && slot < slots.To
	})
	return span.Filter(where, winnersOf(records))
}

// Count returns how many winners each service has, and how many of them have an error.
func (p *Partition) Count() []api.Removed {
	counts := map[string]api.Removed{}
	for _, s := range p.Spans() {
		count := counts[s.Service]
		count.Partition, count.Service = p.number, s.Service
		count.Spans++
		if s.Error {
			count.Errors++
		}
		counts[s.Service] = count
	}
	return slices.SortedFunc(maps.Values(counts), func(a, b api.Removed) int { return cmp.Compare(a.Service, b.Service) })
}

// Digest returns a checksum of the records.
func (p *Partition) Digest() uint32 {
	var forms []string
	for _, s := range p.Records() {
		forms = append(forms, encoding.EncodeSpan(s))
	}
	digest := uint32(0)
	for _, link := range checksum.Chain(forms) {
		digest = link
	}
	return digest
}
