// Package fraction contains exact fractions of small numbers: shares, rates and quantiles. It is layer 2: see shared/doc/02-fraction.md.
package fraction

import (
	"cmp"

	"sleuth/api"
)

// Limits.
const (
	MaxPart   = api.MaxSmall // of numerators and denominators
	MaxPlaces = 6            // decimal places
	MaxLength = 16           // bytes of a fraction as a string
)

// Check returns the error of a fraction that is not canonical.
func Check(f api.Fraction) api.Errno {
	if canonical, e := Make(f.Num, f.Den); e != api.OK || canonical != f {
		return api.ErrForm
	}
	return api.OK
}

// Make returns the fraction of two ints.
func Make(num, den int) (api.Fraction, api.Errno) {
	if den == 0 {
		return api.Fraction{}, api.ErrZero
	}
	n, d := magnitude(num), magnitude(den)
	common := divisor(n, d)
	n, d = n/common, d/common
	if n > MaxPart || d > MaxPart {
		return api.Fraction{}, api.ErrOverflow
	}
	if (num < 0) != (den < 0) {
		return api.Fraction{Num: -int(n), Den: int(d)}, api.OK
	}
	return api.Fraction{Num: int(n), Den: int(d)}, api.OK
}

// FromInt returns an int as a fraction.
func FromInt(n int) (api.Fraction, api.Errno) { return Make(n, 1) }

// Sign returns the sign of a fraction.
func Sign(f api.Fraction) int { return cmp.Compare(f.Num, 0) }

// Compare returns the sign of a difference.
func Compare(f, g api.Fraction) int {
	if f == g {
		return 0
	}
	return cmp.Compare(f.Num*g.Den, g.Num*f.Den)
}

// Min returns the less of two fractions.
func Min(f, g api.Fraction) api.Fraction {
	if Compare(f, g) > 0 {
		return g
	}
	return f
}

// Max returns the greater of two fractions.
func Max(f, g api.Fraction) api.Fraction {
	if Compare(f, g) < 0 {
		return g
	}
	return f
}

// Neg returns a fraction with the opposite sign.
func Neg(f api.Fraction) api.Fraction { return api.Fraction{Num: -f.Num, Den: f.Den} }

// Add returns a sum.
func Add(f, g api.Fraction) (api.Fraction, api.Errno) {
	return Make(f.Num*g.Den+g.Num*f.Den, f.Den*g.Den)
}

// Sub returns a difference.
func Sub(f, g api.Fraction) (api.Fraction, api.Errno) { return Add(f, Neg(g)) }

// Mul returns a product.
func Mul(f, g api.Fraction) (api.Fraction, api.Errno) { return Make(f.Num*g.Num, f.Den*g.Den) }

// Div returns a quotient.
func Div(f, g api.Fraction) (api.Fraction, api.Errno) { return Make(f.Num*g.Den, f.Den*g.Num) }

// Floor returns the greatest integer that is at most a fraction.
func Floor(f api.Fraction) int { return floorOfMultiple(1, f) }

// Ceil returns the least integer that is at least a fraction.
func Ceil(f api.Fraction) int { return -floorOfMultiple(-1, f) }

// MulFloor returns the greatest integer that is at most a multiple of n.
func MulFloor(n int, f api.Fraction) (int, api.Errno) {
	if n < -api.MaxTime || n > api.MaxTime {
		return 0, api.ErrRange
	}
	return floorOfMultiple(n, f), api.OK
}

// MulCeil returns the least integer that is at least a multiple of n.
func MulCeil(n int, f api.Fraction) (int, api.Errno) {
	if n < -api.MaxTime || n > api.MaxTime {
		return 0, api.ErrRange
	}
	return -floorOfMultiple(-n, f), api.OK
}

// Between returns the simplest fraction between two others.
func Between(f, g api.Fraction) (api.Fraction, api.Errno) {
	switch {
	case Check(f) != api.OK || Check(g) != api.OK:
		return api.Fraction{}, api.ErrForm
	case Compare(f, g) >= 0:
		return api.Fraction{}, api.ErrOrder
	case Sign(f) < 0 && Sign(g) > 0:
		return FromInt(0)
	case Sign(f) < 0:
		s := simplest(Neg(g), Neg(f))
		return Make(-s.Num, s.Den)
	}
	s := simplest(f, g)
	return Make(s.Num, s.Den)
}

// simplest returns the simplest fraction between two others, of which low is not negative. A denominator 0 of high means that nothing bounds it from above.
func simplest(low, high api.Fraction) api.Fraction {
	whole := low.Num / low.Den
	if (whole+1)*high.Den < high.Num {
		return api.Fraction{Num: whole + 1, Den: 1}
	}
	// Both bounds are from whole to whole + 1. The reciprocal of the simplest fraction, less whole, is the simplest one between the reciprocals of the bounds, less whole.
	s := simplest(
		api.Fraction{Num: high.Den, Den: high.Num - whole*high.Den},
		api.Fraction{Num: low.Den, Den: low.Num - whole*low.Den},
	)
	return api.Fraction{Num: whole*s.Num + s.Den, Den: s.Num}
}

// floorOfMultiple returns the greatest integer that is at most n * f, or 0 if f is not canonical, and so possibly no number.
func floorOfMultiple(n int, f api.Fraction) int {
	if f.Den < 1 {
		return 0
	}
	floor := n * f.Num / f.Den
	if floor*f.Den > n*f.Num {
		floor--
	}
	return floor
}

// magnitude is defined for the least int too, which has no opposite int.
func magnitude(n int) uint64 {
	if n < 0 {
		return -uint64(n)
	}
	return uint64(n)
}

// divisor returns the greatest common divisor of two numbers, of which b is not 0.
func divisor(a, b uint64) uint64 {
	for a != 0 {
		a, b = b%a, a
	}
	return b
}
