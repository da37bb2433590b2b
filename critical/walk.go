package critical

import (
	"cmp"
	"slices"

	"sleuth/api"
	"sleuth/assembly"
	"sleuth/span"
)

// Walk returns the critical path of a span, for a function that says which events are before others.
func Walk(l []api.Span, root int, before func(x, y api.Event) (bool, api.Errno)) (path []api.Segment, f api.Errno) {
	defer func() {
		if recover() != nil { // nothing is known about what before does
			path, f = nil, api.ErrArgument
		}
	}()
	if before == nil {
		return nil, api.ErrArgument
	}
	s, f := top(l, root)
	if f != api.OK {
		return nil, f
	}
	w := walker{children: blocking(l), isWalked: map[api.Ref]bool{}, before: before}
	w.run(s)
	if w.failure != api.OK {
		return nil, w.failure
	}
	slices.Reverse(w.segments)
	return w.segments, api.OK
}

// top returns the span where a walk begins.
func top(l []api.Span, root int) (api.Span, api.Errno) {
	if len(l) > api.MaxSpans {
		return api.Span{}, api.ErrLimit
	}
	s, isThere := find(l, root)
	if !isThere {
		return api.Span{}, api.ErrNotFound
	}
	if slices.Contains(assembly.Build(l, s.Trace).Cyclic, root) {
		return api.Span{}, api.ErrCycle
	}
	return s, api.OK
}

// find returns the span with an id.
func find(l []api.Span, id int) (api.Span, bool) {
	place := slices.IndexFunc(l, func(s api.Span) bool { return s.Id == id })
	if place < 0 {
		return api.Span{}, false
	}
	return l[place], true
}

// blocking returns the blocking children of each span, in increasing order of their ids.
func blocking(l []api.Span) map[int][]api.Span {
	ordered := slices.Clone(l)
	slices.SortFunc(ordered, func(a, b api.Span) int { return cmp.Compare(a.Id, b.Id) })
	children := map[int][]api.Span{}
	for _, s := range ordered {
		if span.Blocks(s) {
			children[s.Parent] = append(children[s.Parent], s)
		}
	}
	return children
}

func startOf(s api.Span) api.Event { return api.Event{Span: span.RefOf(s)} }

func endOf(s api.Span) api.Event { return api.Event{Span: span.RefOf(s), End: true} }

// walker walks backwards through the spans of a trace.
type walker struct {
	children map[int][]api.Span
	isWalked map[api.Ref]bool
	before   func(x, y api.Event) (bool, api.Errno)
	segments []api.Segment
	failure  api.Errno
}

// run makes the segments of a span from its start to its end, the last one first.
func (w *walker) run(root api.Span) {
	var walk func(s api.Span, lo, hi api.Event)
	walk = func(s api.Span, lo, hi api.Event) {
		w.enter(s)
		for cur := hi; w.isBefore(lo, cur); {
			last, until, isFound := w.last(s, lo, cur)
			if !isFound {
				w.add(s, lo, cur)
				return
			}
			if until != cur {
				w.add(s, until, cur)
			}
			from := lo
			if start := startOf(last); w.isBefore(lo, start) {
				from = start
			}
			walk(last, from, until)
			cur = from
		}
	}
	walk(root, startOf(root), endOf(root))
}

// enter notes that a span is walked through. If that happens a second time, then before has answered in a circle, or the list is no trace, and without a failure the walk would not end.
func (w *walker) enter(s api.Span) {
	if w.isWalked[span.RefOf(s)] {
		w.failure = cmp.Or(w.failure, api.ErrConflict)
	}
	w.isWalked[span.RefOf(s)] = true
}

// isBefore asks whether an event is before another one. After a failure nothing more is asked, and nothing is before anything, so that the walk ends.
func (w *walker) isBefore(x, y api.Event) (isBefore bool) {
	if w.failure != api.OK || x == y {
		return false
	}
	isBefore, w.failure = w.before(x, y)
	return isBefore
}

// last returns the child for which a span waited last before cur, and until when.
func (w *walker) last(s api.Span, lo, cur api.Event) (last api.Span, until api.Event, isFound bool) {
	for _, c := range w.children[s.Id] {
		if !w.isCandidate(c, lo, cur) {
			continue
		}
		end := cur
		if w.isBefore(endOf(c), cur) {
			end = endOf(c)
		}
		if !isFound || w.isBefore(until, end) {
			last, until, isFound = c, end, true
		}
	}
	return last, until, isFound
}

// isCandidate reports whether a child was running for some time between two events.
func (w *walker) isCandidate(c api.Span, lo, cur api.Event) bool {
	return w.isBefore(startOf(c), cur) && w.isBefore(lo, endOf(c)) && w.isBefore(startOf(c), endOf(c))
}

func (w *walker) add(s api.Span, from, to api.Event) {
	w.segments = append(w.segments, api.Segment{Span: span.RefOf(s), From: from, To: to})
}
