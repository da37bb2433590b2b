package certain

import (
	"slices"

	"sleuth/api"
	"sleuth/order"
	"sleuth/skew"
)

// Decisions returns the answers about different clocks that decide the path of a span, as facts with proofs.
func Decisions(e *skew.Evidence, l []api.Span, root int) ([]api.Fact, api.Errno) {
	w, f := walk(e, l, root)
	if f != api.OK {
		return nil, f
	}
	return decisions(e, l, w.answers), api.OK
}

// decisions returns the decisions of answers.
func decisions(e *skew.Evidence, l []api.Span, answers []Answer) []api.Fact {
	var facts []api.Fact
	prove, isDecided := prover(e), map[question]bool{}
	for _, a := range answers {
		q := question{a.X, a.Y}
		if !a.Earlier {
			q = question{a.Y, a.X}
		}
		from, to, _ := points(e, l, q.x, q.y) // they are there, since the question was answered
		if from.Clock == to.Clock || isDecided[q] {
			continue
		}
		isDecided[q] = true
		gap, _ := order.Gap(e, from, to)
		facts = append(facts, api.Fact{Kind: api.FactOrder, A: q.x, B: q.y, Low: gap.Low, Proof: api.Proof{Chain: prove(from, to)}})
	}
	return facts
}

// prover returns a function that proves least gaps. What proves one depends on the clocks only, so it is found once for each two of them.
func prover(e *skew.Evidence) func(x, y order.Point) []api.Message {
	type clocks struct{ from, to int }
	known := map[clocks][]api.Message{}
	return func(x, y order.Point) []api.Message {
		c := clocks{x.Clock, y.Clock}
		if known[c] == nil {
			known[c], _ = order.Proof(e, x, y)
		}
		return slices.Clone(known[c])
	}
}

// Fact returns the certain path of a span as a fact.
func Fact(e *skew.Evidence, l []api.Span, root int) (api.Fact, api.Errno) {
	w, f := walk(e, l, root)
	if f != api.OK {
		return api.Fact{}, f
	}
	start := api.Event{Span: api.Ref{Trace: l[0].Trace, Id: root}} // all spans are of one trace
	return api.Fact{Kind: api.FactPath, A: start, Path: w.path, Proof: api.Proof{Decisions: decisions(e, l, w.answers)}}, api.OK
}
