package replica

import (
	"maps"
	"slices"

	"sleuth/api"
	"sleuth/checksum"
	"sleuth/encoding"
	"sleuth/retention"
	"sleuth/span"
)

// records returns the records of all partitions that have some, in order.
func (r *Replica) records() map[int][]api.Span {
	all := map[int][]api.Span{}
	if r == nil {
		return all
	}
	for _, s := range r.keeper.Records() {
		partition := span.Partition(s.Trace)
		all[partition] = append(all[partition], s)
	}
	return all
}

// Partitions returns the partitions that have records.
func (r *Replica) Partitions() []int { return slices.Sorted(maps.Keys(r.records())) }

// Records returns the records of a partition.
func (r *Replica) Records(partition int) []api.Span { return r.records()[partition] }

// Digests returns the digests of the partitions that have records.
func (r *Replica) Digests() []Digest {
	records := r.records()
	var all []Digest
	for _, partition := range slices.Sorted(maps.Keys(records)) {
		l := records[partition]
		all = append(all, Digest{Partition: partition, Records: len(l), Sum: sum(l)})
	}
	return all
}

// sum returns the last link of the chain of records, of which there is at least one.
func sum(l []api.Span) uint32 {
	var forms []string
	for _, s := range l {
		forms = append(forms, encoding.EncodeSpan(s))
	}
	links := checksum.Chain(forms)
	return links[len(links)-1]
}

// Vector returns the versions of the partitions that have changed.
func (r *Replica) Vector() []Mark {
	if r == nil {
		return nil
	}
	var all []Mark
	for _, partition := range slices.Sorted(maps.Keys(r.versions)) {
		all = append(all, Mark{Partition: partition, Version: r.versions[partition]})
	}
	return all
}

// Differs returns the partitions that have different records in two replicas.
func (r *Replica) Differs(o *Replica) ([]int, api.Errno) {
	if r == nil || o == nil {
		return nil, api.ErrArgument
	}
	mine, theirs := r.records(), o.records()
	isSame := func(partition int) bool { return slices.EqualFunc(mine[partition], theirs[partition], span.Equal) }
	all := slices.AppendSeq(slices.Collect(maps.Keys(mine)), maps.Keys(theirs))
	slices.Sort(all)
	return slices.DeleteFunc(slices.Compact(all), isSame), api.OK
}

// Pull takes what another replica has.
func (r *Replica) Pull(o *Replica) (Pulled, api.Errno) {
	switch {
	case r == nil || o == nil:
		return Pulled{}, api.ErrArgument
	case r.name == o.name:
		return Pulled{}, api.ErrConflict
	}
	mine, theirs := r.records(), o.records()
	pulled := Pulled{}
	for _, m := range o.Vector() {
		if !r.see(o.name, m) {
			continue
		}
		pulled.Asked++
		if n := r.take(mine[m.Partition], theirs[m.Partition]); n > 0 {
			r.advance(m.Partition)
			pulled.Copied++
			pulled.Records += n
		}
	}
	return pulled, api.OK
}

// see notes the version of a partition of another replica, and reports whether it is greater than the one that was seen before.
func (r *Replica) see(name int, m Mark) bool {
	f := foreign{name, m.Partition}
	if m.Version <= r.seen[f] {
		return false
	}
	if r.seen == nil {
		r.seen = map[foreign]int{}
	}
	r.seen[f] = m.Version
	return true
}

// take adds those records of another replica that can be taken to the ones of the same partition, and returns how many are new.
func (r *Replica) take(mine, theirs []api.Span) int {
	taken := slices.DeleteFunc(theirs, func(s api.Span) bool { return !r.canTake(s.Trace) })
	// They are valid and not late, so nothing else changes.
	r.keeper.Add(taken)
	return len(span.Union(mine, taken)) - len(mine)
}

// canTake reports whether records of a trace can be taken.
func (r *Replica) canTake(trace int) bool {
	return r.keeper.Has(trace) || retention.Tier(r.ages, r.keeper.Now(), span.Partition(trace)) == retention.TierFull
}
