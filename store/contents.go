package store

import (
	"maps"
	"slices"

	"sleuth/api"
	"sleuth/block"
	"sleuth/fragment"
	"sleuth/partition"
	"sleuth/retention"
	"sleuth/span"
)

// contents is what the operations that have been performed lead to.
type contents struct {
	keeper     *retention.Keeper
	ids        map[fragment.Id]bool
	exchanges  map[api.Exchange]bool
	partitions map[int]*partition.Partition // those that have records, by their numbers
}

// newContents returns what there is without operations.
func newContents(p retention.Policy) (*contents, api.Errno) {
	keeper, e := retention.New(p)
	if e != api.OK {
		return nil, e
	}
	return &contents{keeper: keeper, ids: map[fragment.Id]bool{}, exchanges: map[api.Exchange]bool{}}, api.OK
}

// behind returns the contents behind further operations, and what these do. The partitions that they do not change belong to both contents.
func (c *contents) behind(operations []operation) (*contents, Summary, api.Errno) {
	next := &contents{c.keeper.Clone(), maps.Clone(c.ids), maps.Clone(c.exchanges), map[int]*partition.Partition{}}
	sum := Summary{}
	for _, o := range operations {
		sum = sum.plus(kinds()[o.kind].perform(next, o))
	}
	if e := next.divide(c); e != api.OK {
		return nil, Summary{}, e
	}
	return next, sum, api.OK
}

func (s Summary) plus(t Summary) Summary {
	return Summary{s.New + t.New, s.Repeated + t.Repeated, s.Late + t.Late, s.Removed + t.Removed}
}

// ingest performs the ingestion of a fragment.
func (c *contents) ingest(o operation) Summary {
	f := o.fragment
	id := fragment.Id{Agent: f.Agent, Seq: f.Seq}
	if c.ids[id] {
		return Summary{Repeated: 1}
	}
	c.ids[id] = true
	for _, x := range f.Exchanges {
		c.exchanges[x] = true
	}
	late, _ := c.keeper.Add(f.Spans)
	return Summary{New: 1, Late: late}
}

// apply performs the application of a slot.
func (c *contents) apply(o operation) Summary {
	removed, _ := c.keeper.Apply(o.slot)
	return Summary{Removed: removed}
}

// records returns the retained records of all partitions that have some.
func (c *contents) records() map[int][]api.Span {
	all := map[int][]api.Span{}
	for _, s := range c.keeper.Records() {
		number := span.Partition(s.Trace)
		all[number] = append(all[number], s)
	}
	return all
}

// divide makes the partitions from the records. Those whose records have not changed stay as they were in the contents before.
func (c *contents) divide(before *contents) api.Errno {
	old, records := before.records(), c.records()
	for _, number := range slices.Sorted(maps.Keys(records)) {
		l, p := records[number], before.partitions[number]
		if !slices.EqualFunc(old[number], l, span.Equal) {
			if _, e := block.Build(l); e != api.OK {
				return e
			}
			gone := slices.DeleteFunc(span.Traces(old[number]), c.keeper.Has)
			p = changed(p, number, gone, l)
		}
		c.partitions[number] = p
	}
	return api.OK
}

// changed returns a partition with some records, of which a block can be made: in the blocks of the partition before without the traces that are gone, and a further one. If there is none, or if it has no room for a further block, all records are in one.
func changed(before *partition.Partition, number int, gone []int, l []api.Span) *partition.Partition {
	var p *partition.Partition
	switch blocks := len(before.Blocks()); {
	case blocks == 0 || blocks == partition.MaxBlocks:
		p, _ = partition.New(number)
	case len(gone) > 0:
		p, _ = before.Without(gone)
	default:
		p = before.Clone()
	}
	p.Insert(l)
	return p
}
