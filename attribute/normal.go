package attribute

import (
	"slices"

	"sleuth/api"
)

// Negate returns the negation of a predicate.
func Negate(p api.Pred) api.Pred {
	if p.Op == api.PredNot && len(p.Args) == 1 {
		return clone(p.Args[0])
	}
	return not(clone(p))
}

// clone returns a predicate that shares no lists with another one.
func clone(p api.Pred) api.Pred {
	var args []api.Pred
	for _, arg := range p.Args {
		args = append(args, clone(arg))
	}
	p.Args = args
	return p
}

func not(p api.Pred) api.Pred { return api.Pred{Op: api.PredNot, Args: []api.Pred{p}} }

func isTrue(p api.Pred) bool { return p.Op == api.PredTrue }

// isFalse reports whether a predicate is the negation of PredTrue.
func isFalse(p api.Pred) bool {
	return p.Op == api.PredNot && len(p.Args) == 1 && isTrue(p.Args[0])
}

// Normal returns the normal form of a predicate.
func Normal(p api.Pred) api.Pred { return normal(p, false) }

// normal returns the normal form of a predicate, or of its negation.
func normal(p api.Pred, isNegated bool) api.Pred {
	switch {
	case p.Op == api.PredNot && len(p.Args) == 1:
		return normal(p.Args[0], !isNegated)
	case p.Op == api.PredAnd || p.Op == api.PredOr:
		var args []api.Pred
		for _, arg := range p.Args {
			args = append(args, normal(arg, isNegated))
		}
		if isAnd := p.Op == api.PredAnd; isAnd != isNegated {
			return join(api.PredAnd, args)
		}
		return join(api.PredOr, args)
	}
	p.Args = nil // an empty list could still have room, which both would share
	if isNegated {
		return not(p)
	}
	return p
}

// join returns the normal form of PredAnd or PredOr of normal forms.
func join(op int, args []api.Pred) api.Pred {
	isNeutral, isDecisive := isTrue, isFalse
	if op == api.PredOr {
		isNeutral, isDecisive = isFalse, isTrue
	}
	var parts []api.Pred
	for _, arg := range args {
		switch {
		case isDecisive(arg):
			return arg
		case arg.Op == op:
			parts = append(parts, arg.Args...)
		case !isNeutral(arg):
			parts = append(parts, arg)
		}
	}
	slices.SortFunc(parts, Compare)
	parts = slices.CompactFunc(parts, Equal)
	switch {
	case len(parts) == 1:
		return parts[0]
	case len(parts) > 1:
		return api.Pred{Op: op, Args: parts}
	case op == api.PredOr:
		return not(api.Pred{})
	}
	return api.Pred{}
}
