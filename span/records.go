package span

import (
	"cmp"
	"slices"

	"sleuth/api"
	"sleuth/attribute"
)

// RefOf returns the identity of a span.
func RefOf(s api.Span) api.Ref { return api.Ref{Trace: s.Trace, Id: s.Id} }

// CompareRefs compares two identities.
func CompareRefs(a, b api.Ref) int {
	return cmp.Or(cmp.Compare(a.Trace, b.Trace), cmp.Compare(a.Id, b.Id))
}

// Compare compares two records.
func Compare(a, b api.Span) int {
	c := CompareRefs(RefOf(a), RefOf(b))
	c = then(c, a.Revision, b.Revision)
	c = then(c, a.Parent, b.Parent)
	c = then(c, a.Clock, b.Clock)
	c = then(c, a.Kind, b.Kind)
	c = then(c, a.Service, b.Service)
	c = then(c, a.Version, b.Version)
	c = then(c, a.Operation, b.Operation)
	c = then(c, a.Start, b.Start)
	c = then(c, a.End, b.End)
	c = then(c, bit(a.Error), bit(b.Error))
	if c != 0 {
		return c
	}
	return cmp.Or(attribute.CompareAttrs(a.Attrs, b.Attrs), slices.CompareFunc(a.Links, b.Links, CompareRefs))
}

// then returns the comparison of the fields before one, or that of this field if they are equal.
func then[T cmp.Ordered](before int, x, y T) int {
	if before != 0 {
		return before
	}
	return cmp.Compare(x, y)
}

// bit returns 1 for true, and 0 for false.
func bit(b bool) int {
	if b {
		return 1
	}
	return 0
}

// Equal reports whether two records are equal.
func Equal(a, b api.Span) bool { return Compare(a, b) == 0 }

// Set returns the records of a list in order, each once.
func Set(l []api.Span) []api.Span { return copies(ordered(l)) }

// Union returns the records of two lists in order, each once.
func Union(a, b []api.Span) []api.Span { return Set(slices.Concat(a, b)) }

// Winners returns the winner of each identity.
func Winners(l []api.Span) []api.Span { return copies(winners(l)) }

// Winner returns the winner of an identity.
func Winner(l []api.Span, r api.Ref) (api.Span, bool) {
	records := chosen(l, func(s api.Span) bool { return RefOf(s) == r })
	if len(records) == 0 {
		return api.Span{}, false
	}
	return clone(slices.MaxFunc(records, Compare)), true
}

// Of returns the winners of a trace.
func Of(l []api.Span, trace int) []api.Span {
	return Winners(chosen(l, func(s api.Span) bool { return s.Trace == trace }))
}

// Traces returns the ids of all traces.
func Traces(l []api.Span) []int {
	var traces []int
	for _, s := range l {
		traces = append(traces, s.Trace)
	}
	slices.Sort(traces)
	return slices.Compact(traces)
}

// ordered returns the records of a list in order, each once. They share their lists with those that are given, like those of winners and chosen.
func ordered(l []api.Span) []api.Span {
	set := slices.Clone(l)
	slices.SortFunc(set, Compare)
	return slices.CompactFunc(set, Equal)
}

// winners returns the last record of each identity, which is the greatest one.
func winners(l []api.Span) []api.Span {
	set := ordered(l)
	var last []api.Span
	for k, s := range set {
		if k+1 == len(set) || RefOf(set[k+1]) != RefOf(s) {
			last = append(last, s)
		}
	}
	return last
}

// chosen returns the records that satisfy a condition, in their order.
func chosen(l []api.Span, isChosen func(s api.Span) bool) []api.Span {
	var found []api.Span
	for _, s := range l {
		if isChosen(s) {
			found = append(found, s)
		}
	}
	return found
}

// copies returns records that share no lists with those that are given.
func copies(l []api.Span) []api.Span {
	var made []api.Span
	for _, s := range l {
		made = append(made, clone(s))
	}
	return made
}

// clone returns a record that shares no lists with another one. Empty lists become nil, so that equal records have equal copies.
func clone(s api.Span) api.Span {
	s.Attrs = append([]api.Attr(nil), s.Attrs...)
	s.Links = append([]api.Ref(nil), s.Links...)
	return s
}
