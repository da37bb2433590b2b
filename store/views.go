package store

import (
	"maps"
	"slices"

	"sleuth/api"
	"sleuth/compaction"
	"sleuth/fragment"
	"sleuth/partition"
	"sleuth/span"
)

// Has reports whether a fragment with an identity has been committed.
func (s *Store) Has(agent, seq int) bool {
	return s.check() == api.OK && s.contents.ids[fragment.Id{Agent: agent, Seq: seq}]
}

// Now returns the slot that was applied last.
func (s *Store) Now() int {
	if s.check() != api.OK {
		return 0
	}
	return s.contents.keeper.Now()
}

// Traces returns the retained traces.
func (s *Store) Traces() []api.Trace {
	if s.check() != api.OK {
		return nil
	}
	return s.contents.keeper.Traces()
}

// Exchanges returns all exchanges in order.
func (s *Store) Exchanges() []api.Exchange {
	if s.check() != api.OK {
		return nil
	}
	return slices.SortedFunc(maps.Keys(s.contents.exchanges), fragment.CompareExchanges)
}

// Retained returns the retained data.
func (s *Store) Retained() api.Retained {
	if s.check() != api.OK {
		return api.Retained{}
	}
	return s.contents.keeper.Retained(s.Exchanges())
}

// Scan returns the spans of some slots that satisfy a predicate.
func (s *Store) Scan(slots api.Interval, where api.Pred) []api.Span {
	isOther := func(x api.Span) bool {
		slot := span.Slot(x.Trace)
		return slot < slots.From || slot >= slots.To || !span.Holds(where, x)
	}
	var spans []api.Span
	for _, t := range s.Traces() {
		spans = append(spans, slices.DeleteFunc(t.Spans, isOther)...)
	}
	return spans
}

// Partitions returns the partitions that have records.
func (s *Store) Partitions() []int {
	if s.check() != api.OK {
		return nil
	}
	return slices.Sorted(maps.Keys(s.contents.partitions))
}

// Partition returns a copy of a partition.
func (s *Store) Partition(number int) (*partition.Partition, api.Errno) {
	if e := s.check(); e != api.OK {
		return nil, e
	}
	p, isThere := s.contents.partitions[number]
	if !isThere {
		return nil, api.ErrNotFound
	}
	return p.Clone(), api.OK
}

// Compact merges blocks of all partitions, and returns the number of steps.
func (s *Store) Compact(fan int) (int, api.Errno) {
	if e := s.check(); e != api.OK {
		return 0, e
	}
	if fan < compaction.MinFan || fan > compaction.MaxFan {
		return 0, api.ErrRange
	}
	steps := 0
	for _, p := range s.contents.partitions {
		done, _ := compaction.Run(p, fan)
		steps += len(done)
	}
	return steps, api.OK
}
