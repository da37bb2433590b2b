package certain

import (
	"sleuth/api"
	"sleuth/critical"
	"sleuth/skew"
)

// question is whether x was before y.
type question struct{ x, y api.Event }

// walked is what a certain walk has found: the path, or the question that is open.
type walked struct {
	path    []api.Segment
	answers []Answer
	open    question
}

// walk is the certain walk of a span. If a question is open, the error is ErrUndecided.
func walk(e *skew.Evidence, l []api.Span, root int) (w walked, f api.Errno) {
	if e == nil {
		return walked{}, api.ErrArgument
	}
	// A walk asks again and again when one event is compared with many, so answers are remembered.
	known := map[question]bool{}
	w.path, f = critical.Walk(l, root, func(x, y api.Event) (bool, api.Errno) {
		q := question{x, y}
		if isEarlier, isKnown := known[q]; isKnown {
			return isEarlier, api.OK
		}
		isEarlier, f := Earlier(e, l, x, y)
		if f != api.OK {
			w.open = q
			return false, f
		}
		known[q] = isEarlier
		w.answers = append(w.answers, Answer{x, y, isEarlier})
		return isEarlier, api.OK
	})
	return w, f
}
