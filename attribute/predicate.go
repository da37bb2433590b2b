package attribute

import (
	"cmp"
	"slices"
	"strings"

	"sleuth/api"
)

// MaxNodes is the greatest number of nodes of a predicate.
const MaxNodes = 64

// Check returns the error of a predicate.
func Check(p api.Pred) api.Errno {
	visited := 0
	var check func(p api.Pred, level int) api.Errno
	check = func(p api.Pred, level int) api.Errno {
		switch {
		case visited == MaxNodes:
			return api.ErrLimit
		case level > api.MaxDepth:
			return api.ErrDepth
		}
		visited++
		if e := checkNode(p); e != api.OK {
			return e
		}
		for _, arg := range p.Args {
			if e := check(arg, level+1); e != api.OK {
				return e
			}
		}
		return api.OK
	}
	return check(p, 1)
}

// checkNode returns the error of a node, apart from those of its arguments.
func checkNode(p api.Pred) api.Errno {
	switch {
	case p.Op < api.PredTrue || p.Op > api.PredPrefix:
		return api.ErrKind
	case !hasForm(p):
		return api.ErrForm
	case !hasNames(p):
		return api.ErrName
	case !isTest(p) || p.Op == api.PredHas:
		return api.OK
	}
	if e := CheckValue(p.Value); e != api.OK {
		return e
	}
	if !hasType(p) {
		return api.ErrType
	}
	return api.OK
}

// hasForm reports whether a node has the right number of arguments, and no field that its operation does not have.
func hasForm(p api.Pred) bool {
	hasValue := p.Field != "" || p.Value != (api.Value{})
	switch p.Op {
	case api.PredTrue:
		return len(p.Args) == 0 && p.Key == "" && !hasValue
	case api.PredAnd, api.PredOr:
		return len(p.Args) > 0 && p.Key == "" && !hasValue
	case api.PredNot:
		return len(p.Args) == 1 && p.Key == "" && !hasValue
	case api.PredHas:
		return len(p.Args) == 0 && !hasValue
	}
	return len(p.Args) == 0
}

// hasNames reports whether the field and the key of a node are names where they must be.
func hasNames(p api.Pred) bool {
	switch {
	case !isTest(p):
		return true
	case p.Op == api.PredHas:
		return IsName(p.Key)
	case p.Field == FieldAttr:
		return IsName(p.Key)
	}
	return IsName(p.Field) && p.Key == ""
}

// hasType reports whether the value of a test has a kind that its operation permits.
func hasType(p api.Pred) bool {
	switch p.Op {
	case api.PredLess:
		return p.Value.Kind != api.KindBool
	case api.PredPrefix:
		return p.Value.Kind == api.KindString
	}
	return true
}

func isTest(p api.Pred) bool { return p.Op >= api.PredHas }

// Size returns the number of nodes.
func Size(p api.Pred) int {
	size := 0
	visit(p, func(api.Pred) { size++ })
	return size
}

// Fields returns the fields and keys that occur in tests.
func Fields(p api.Pred) []api.Column {
	var l []api.Column
	visit(p, func(p api.Pred) {
		switch {
		case p.Op == api.PredHas:
			l = append(l, api.Column{Field: FieldAttr, Key: p.Key})
		case isTest(p):
			l = append(l, api.Column{Field: p.Field, Key: p.Key})
		}
	})
	slices.SortFunc(l, func(a, b api.Column) int {
		return cmp.Or(cmp.Compare(a.Field, b.Field), cmp.Compare(a.Key, b.Key))
	})
	return slices.Compact(l)
}

// visit does something with each node, in preorder.
func visit(p api.Pred, do func(p api.Pred)) {
	do(p)
	for _, arg := range p.Args {
		visit(arg, do)
	}
}

// Holds reports whether a source satisfies a predicate.
func Holds(p api.Pred, s Source) bool {
	// The method of a source is not this package's own: if it panics, this must not go on.
	defer func() { _ = recover() }()
	if s == nil {
		s = Record{}
	}
	return isSatisfied(p, s)
}

// isSatisfied reports whether a source satisfies a predicate.
func isSatisfied(p api.Pred, s Source) bool {
	switch p.Op {
	case api.PredTrue:
		return true
	case api.PredAnd:
		return !slices.ContainsFunc(p.Args, func(arg api.Pred) bool { return !isSatisfied(arg, s) })
	case api.PredOr:
		return slices.ContainsFunc(p.Args, func(arg api.Pred) bool { return isSatisfied(arg, s) })
	case api.PredNot:
		return !slices.ContainsFunc(p.Args, func(arg api.Pred) bool { return isSatisfied(arg, s) })
	case api.PredHas:
		_, hasValue := s.Value(FieldAttr, p.Key)
		return hasValue
	}
	v, hasValue := s.Value(p.Field, p.Key)
	return hasValue && meets(v, p)
}

// meets reports whether a value satisfies a test of its field.
func meets(v api.Value, test api.Pred) bool {
	switch {
	case v.Kind != test.Value.Kind:
		return false
	case test.Op == api.PredEqual:
		return v == test.Value
	case test.Op == api.PredLess:
		return CompareValues(v, test.Value) < 0
	}
	return strings.HasPrefix(v.Text, test.Value.Text)
}

// Compare compares two predicates.
func Compare(p, q api.Pred) int {
	c := cmp.Or(
		cmp.Compare(p.Op, q.Op),
		cmp.Compare(p.Field, q.Field),
		cmp.Compare(p.Key, q.Key),
		CompareValues(p.Value, q.Value),
		cmp.Compare(len(p.Args), len(q.Args)),
	)
	if c != 0 {
		return c
	}
	return compareLists(p.Args, q.Args, Compare)
}

// Equal reports whether two predicates are equal.
func Equal(p, q api.Pred) bool { return Compare(p, q) == 0 }
