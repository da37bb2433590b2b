package fragment

import (
	"maps"
	"slices"

	"sleuth/api"
	"sleuth/span"
)

// Set is a set of fragments. Its zero value is empty.
type Set struct {
	// The fragments are in canonical form. Their own lists never change, so sets may share them.
	fragments map[Id][]api.Fragment
	spans     []api.Span     // the records of all fragments, in order, each once
	exchanges []api.Exchange // likewise
}

// New returns an empty set.
func New() *Set { return &Set{fragments: map[Id][]api.Fragment{}} }

// single returns the set of one fragment.
func single(f api.Fragment) *Set {
	form := Canonical(f)
	return &Set{
		fragments: map[Id][]api.Fragment{idOf(form): {form}},
		spans:     form.Spans,
		exchanges: form.Exchanges,
	}
}

// Add adds a fragment.
func (s *Set) Add(f api.Fragment) (int, api.Errno) {
	if s == nil {
		return 0, api.ErrArgument
	}
	if e := Check(f); e != api.OK {
		return 0, e
	}
	return s.Merge(single(f))
}

// Merge adds all fragments of another set.
func (s *Set) Merge(o *Set) (int, api.Errno) {
	if s == nil || o == nil {
		return 0, api.ErrArgument
	}
	added := o.without(s)
	spans := difference(o.spans, s.spans, span.Compare)
	exchanges := difference(o.exchanges, s.exchanges, CompareExchanges)
	for _, size := range []int{s.size() + len(added), len(s.spans) + len(spans), len(s.exchanges) + len(exchanges)} {
		if size > api.MaxRecords {
			return 0, api.ErrLimit
		}
	}
	for _, f := range added {
		s.put(f)
	}
	s.spans = insert(s.spans, spans, span.Compare)
	s.exchanges = insert(s.exchanges, exchanges, CompareExchanges)
	return len(spans) + len(exchanges), api.OK
}

// put adds a fragment in canonical form, but not its records.
func (s *Set) put(f api.Fragment) {
	if s.fragments == nil {
		s.fragments = map[Id][]api.Fragment{}
	}
	id := idOf(f)
	s.fragments[id] = insert(s.fragments[id], []api.Fragment{f}, compareForms)
}

// size returns the number of fragments.
func (s *Set) size() int {
	size := 0
	for _, l := range s.fragments {
		size += len(l)
	}
	return size
}

// Fragments returns all fragments in order.
func (s *Set) Fragments() []api.Fragment { return s.Without(nil) }

// Get returns the fragments with an identity.
func (s *Set) Get(agent, seq int) []api.Fragment {
	if s == nil {
		return nil
	}
	return copies(s.fragments[Id{agent, seq}])
}

// Without returns the fragments that another set does not contain.
func (s *Set) Without(o *Set) []api.Fragment {
	if s == nil {
		return nil
	}
	if o == nil {
		o = New()
	}
	return copies(s.without(o))
}

// without returns the fragments that another set does not contain, in order. They are those of the set itself.
func (s *Set) without(o *Set) []api.Fragment {
	var l []api.Fragment
	for _, id := range s.ids() {
		l = append(l, difference(s.fragments[id], o.fragments[id], compareForms)...)
	}
	return l
}

// copies returns fragments in canonical form that share no lists with those that are given.
func copies(l []api.Fragment) []api.Fragment {
	var made []api.Fragment
	for _, f := range l {
		made = append(made, Canonical(f))
	}
	return made
}

// ids returns the identities of the fragments, in order, each once.
func (s *Set) ids() []Id { return slices.SortedFunc(maps.Keys(s.fragments), compareIds) }

// Agents returns the agents of all fragments.
func (s *Set) Agents() []int {
	if s == nil {
		return nil
	}
	var agents []int
	for _, id := range s.ids() {
		agents = append(agents, id.Agent)
	}
	return slices.Compact(agents)
}

// Prefix returns how many fragments of an agent there are from the number 0 on, without a gap.
func (s *Set) Prefix(agent int) int {
	prefix := 0
	for s != nil && len(s.fragments[Id{agent, prefix}]) > 0 {
		prefix++
	}
	return prefix
}

// Gaps returns the numbers that are missing before the greatest one of an agent.
func (s *Set) Gaps(agent int) []api.Interval {
	if s == nil {
		return nil
	}
	var gaps []api.Interval
	next := 0
	for _, id := range s.ids() {
		if id.Agent != agent {
			continue
		}
		if id.Seq > next {
			gaps = append(gaps, api.Interval{From: next, To: id.Seq})
		}
		next = id.Seq + 1
	}
	return gaps
}

// Conflicts returns the identities with different contents.
func (s *Set) Conflicts() []Id {
	if s == nil {
		return nil
	}
	isUnique := func(id Id) bool { return len(s.fragments[id]) == 1 }
	return slices.DeleteFunc(s.ids(), isUnique)
}

// Records returns the records of the spans of all fragments in order, each once.
func (s *Set) Records() []api.Span {
	if s == nil {
		return nil
	}
	return span.Set(s.spans)
}

// Spans returns the winners of the records.
func (s *Set) Spans() []api.Span {
	if s == nil {
		return nil
	}
	return span.Winners(s.spans)
}

// Exchanges returns the exchanges of all fragments in order, each once.
func (s *Set) Exchanges() []api.Exchange {
	if s == nil {
		return nil
	}
	return slices.Clone(s.exchanges)
}

// Clone returns an independent copy.
func (s *Set) Clone() *Set {
	if s == nil {
		return nil
	}
	// The set is within its limits, so there is no error.
	clone := New()
	clone.Merge(s)
	return clone
}

// Equal reports whether two sets have the same fragments.
func (s *Set) Equal(o *Set) bool {
	if s == nil || o == nil {
		return s == o
	}
	return len(s.without(o)) == 0 && len(o.without(s)) == 0
}
