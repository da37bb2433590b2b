package shape

import (
	"cmp"
	"slices"
	"strings"
)

// Canonical returns a shape with its children in order.
func Canonical(s Shape) Shape {
	canonical := Shape{Service: s.Service, Operation: s.Operation}
	for _, child := range s.Children {
		canonical.Children = append(canonical.Children, Canonical(child))
	}
	slices.SortFunc(canonical.Children, compare)
	return canonical
}

// Compare compares two shapes.
func Compare(a, b Shape) int { return compare(Canonical(a), Canonical(b)) }

// compare compares two canonical shapes.
func compare(a, b Shape) int {
	// Children are looked at only if they decide, or else deep shapes would take too long.
	if x, y := a.name(), b.name(); x != y {
		return compareNames(x, y)
	}
	return slices.CompareFunc(a.Children, b.Children, compare)
}

// Equal reports whether two shapes are equal.
func Equal(a, b Shape) bool { return Compare(a, b) == 0 }

// Size returns the number of nodes.
func Size(s Shape) int {
	size := 1
	for _, child := range s.Children {
		size += Size(child)
	}
	return size
}

// Depth returns the number of nodes on the longest path.
func Depth(s Shape) int {
	below := 0
	for _, child := range s.Children {
		below = max(below, Depth(child))
	}
	return 1 + below
}

// Name is the name of a node of a shape.
type Name struct{ Service, Operation string }

func (s Shape) name() Name { return Name{s.Service, s.Operation} }

func compareNames(a, b Name) int {
	return cmp.Or(strings.Compare(a.Service, b.Service), strings.Compare(a.Operation, b.Operation))
}
