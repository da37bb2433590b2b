package order

import (
	"sleuth/api"
	"sleuth/graph"
	"sleuth/skew"
	"sleuth/span"
)

// At returns the point of an event.
func At(l []api.Span, v api.Event) (Point, api.Errno) {
	s, isThere := span.Winner(l, v.Span)
	if !isThere {
		return Point{}, api.ErrNotFound
	}
	return pointOf(s, v), api.OK
}

// pointOf returns the point of an event of a span.
func pointOf(s api.Span, v api.Event) Point { return Point{s.Clock, span.At(s, v.End)} }

// Events returns the events of a trace, in the order of their numbers.
func Events(l []api.Span, trace int) []api.Event {
	events, _ := timed(l, trace)
	return events
}

// timed returns the events of a trace, and their points.
func timed(l []api.Span, trace int) (events []api.Event, points []Point) {
	for _, s := range span.Of(l, trace) {
		for _, isEnd := range []bool{false, true} {
			v := api.Event{Span: span.RefOf(s), End: isEnd}
			events, points = append(events, v), append(points, pointOf(s, v))
		}
	}
	return events, points
}

// row is what is known about the gaps from an event to all events, by their numbers.
type row [graph.MaxNodes]skew.Bounds

// table returns the gaps of all pairs of at most graph.MaxNodes points.
func table(e *skew.Evidence, points []Point) ([]row, api.Errno) {
	gaps := make([]row, len(points))
	for i := range len(points) {
		if i > 0 && points[i] == points[i-1] {
			gaps[i] = gaps[i-1]
			continue
		}
		for j := range len(points) {
			gap, f := Gap(e, points[i], points[j])
			if f != api.OK {
				return nil, f
			}
			gaps[i][j] = gap
		}
	}
	return gaps, api.OK
}

// Certain returns the certain order of the events of a trace.
func Certain(e *skew.Evidence, l []api.Span, trace int) (graph.Graph, api.Errno) {
	if e == nil {
		return graph.Graph{}, api.ErrArgument
	}
	_, points := timed(l, trace)
	if len(points) > graph.MaxNodes {
		return graph.Graph{}, api.ErrLimit
	}
	gaps, f := table(e, points)
	if f != api.OK {
		return graph.Graph{}, f
	}
	var edges []graph.Edge
	for from := range len(points) {
		for to := range len(points) {
			if known(gaps[from][to]) == Before {
				edges = append(edges, graph.Edge{From: from, To: to})
			}
		}
	}
	return graph.Make(len(points), edges)
}

// Reduced returns the certain order without the edges that follow from others.
func Reduced(e *skew.Evidence, l []api.Span, trace int) (graph.Graph, api.Errno) {
	g, f := Certain(e, l, trace)
	if f != api.OK {
		return graph.Graph{}, f
	}
	return graph.Reduce(g)
}

// Linear returns the events in the least order that agrees with the certain one.
func Linear(e *skew.Evidence, l []api.Span, trace int) ([]api.Event, api.Errno) {
	g, f := Certain(e, l, trace)
	if f != api.OK {
		return nil, f
	}
	numbers, f := graph.Order(g)
	events := Events(l, trace)
	var ordered []api.Event
	for _, n := range numbers {
		ordered = append(ordered, events[n])
	}
	return ordered, f
}
