package attribute

import (
	"slices"
	"strconv"
	"strings"

	"sleuth/api"
)

// node is a node of a normal form, with a number by which it is remembered what it implies. Equal nodes have the same one.
type node struct {
	api.Pred
	number int
	args   []node
}

// content is what nodes with the same number have in common: args is the list of the numbers of the arguments.
type content struct {
	op         int
	field, key string
	value      api.Value
	args       string
}

// pair is the numbers of two nodes.
type pair struct{ p, q int }

// Implies reports whether it can be seen that a predicate implies another one.
func Implies(p, q api.Pred) bool {
	numbers := map[content]int{}
	// There are many ways from the roots to a pair of nodes, but only one answer.
	answers := map[pair]bool{}
	var implies func(p, q node) bool
	implies = func(p, q node) bool {
		key := pair{p.number, q.number}
		answer, isKnown := answers[key]
		if !isKnown {
			answer = nodeImplies(p, q, implies)
			answers[key] = answer
		}
		return answer
	}
	return implies(numbered(Normal(p), numbers), numbered(Normal(q), numbers))
}

// numbered returns the node of a normal form. It adds the numbers that are new.
func numbered(p api.Pred, numbers map[content]int) node {
	n := node{Pred: p}
	var args strings.Builder
	for _, arg := range p.Args {
		child := numbered(arg, numbers)
		n.args = append(n.args, child)
		args.WriteString(strconv.Itoa(child.number) + " ")
	}
	key := content{p.Op, p.Field, p.Key, p.Value, args.String()}
	number, isKnown := numbers[key]
	if !isKnown {
		number = len(numbers)
		numbers[key] = number
	}
	n.number = number
	return n
}

// nodeImplies reports whether it can be seen that a node of a normal form implies another one, if it is known for their arguments.
func nodeImplies(p, q node, implies func(p, q node) bool) bool {
	argImplies := func(arg node) bool { return implies(arg, q) }
	impliesArg := func(arg node) bool { return implies(p, arg) }
	switch {
	case p.number == q.number || isTrue(q.Pred) || isFalse(p.Pred):
		return true
	case p.Op == api.PredOr:
		return all(p.args, argImplies)
	case q.Op == api.PredAnd:
		return all(q.args, impliesArg)
	case q.Op == api.PredOr && slices.ContainsFunc(q.args, impliesArg):
		return true
	case p.Op == api.PredAnd && slices.ContainsFunc(p.args, argImplies):
		return true
	}
	return leafImplies(p.Pred, q.Pred)
}

// all reports whether each element of a list satisfies a condition.
func all(l []node, holds func(n node) bool) bool {
	return !slices.ContainsFunc(l, func(n node) bool { return !holds(n) })
}

// leafImplies reports whether it can be seen that a test or a negation implies another one.
func leafImplies(p, q api.Pred) bool {
	switch {
	case isTest(p) && isTest(q):
		return testImplies(p, q)
	case isTest(p) && isNegation(q):
		return excludes(p, q.Args[0])
	case isNegation(p) && isNegation(q):
		return testImplies(q.Args[0], p.Args[0])
	}
	return false
}

// isNegation reports whether a predicate is the negation of a test.
func isNegation(p api.Pred) bool {
	return p.Op == api.PredNot && len(p.Args) == 1 && isTest(p.Args[0])
}

// testImplies reports whether a test implies another one.
func testImplies(p, q api.Pred) bool {
	if q.Op == api.PredHas {
		return Equal(p, q) || p.Field == FieldAttr && p.Key == q.Key
	}
	if p.Field != q.Field || p.Key != q.Key {
		return false
	}
	switch {
	case p.Op == api.PredEqual:
		return meets(p.Value, q)
	case p.Op == api.PredLess && q.Op == api.PredLess:
		return p.Value.Kind == q.Value.Kind && CompareValues(p.Value, q.Value) <= 0
	case p.Op == api.PredPrefix && q.Op == api.PredPrefix:
		return strings.HasPrefix(p.Value.Text, q.Value.Text)
	}
	return false
}

// excludes reports whether two tests exclude one another.
func excludes(p, q api.Pred) bool {
	if p.Op > q.Op {
		p, q = q, p
	}
	switch {
	case p.Op == api.PredHas || p.Field != q.Field || p.Key != q.Key:
		return false
	case p.Op == api.PredEqual:
		return !meets(p.Value, q)
	case p.Value.Kind != q.Value.Kind:
		return true
	case p.Op == api.PredPrefix:
		return !strings.HasPrefix(p.Value.Text, q.Value.Text) && !strings.HasPrefix(q.Value.Text, p.Value.Text)
	}
	return q.Op == api.PredPrefix && CompareValues(q.Value, p.Value) >= 0
}
