package fraction

import (
	"strconv"
	"strings"

	"sleuth/api"
)

// Print returns a fraction as a string.
func Print(f api.Fraction) string {
	if f.Den == 1 {
		return strconv.Itoa(f.Num)
	}
	return strconv.Itoa(f.Num) + "/" + strconv.Itoa(f.Den)
}

// Parse returns the fraction that a string denotes.
func Parse(s string) (api.Fraction, api.Errno) {
	if len(s) > MaxLength {
		return api.Fraction{}, api.ErrLong
	}
	unsigned, negative := strings.CutPrefix(s, "-")
	num, den, ok := quotient(unsigned)
	if !ok {
		return api.Fraction{}, api.ErrSyntax
	}
	if negative {
		num = -num
	}
	return Make(num, den)
}

// Decimal returns a fraction in decimal digits, rounded down.
func Decimal(f api.Fraction, places int) (string, api.Errno) {
	if places < 0 || places > MaxPlaces {
		return "", api.ErrRange
	}
	n := floorOfMultiple(power(places), f)
	digits := strconv.FormatUint(magnitude(n), 10)
	if missing := places + 1 - len(digits); missing > 0 {
		digits = strings.Repeat("0", missing) + digits
	}
	if point := len(digits) - places; places > 0 {
		digits = digits[:point] + "." + digits[point:]
	}
	if n < 0 {
		digits = "-" + digits
	}
	return digits, api.OK
}

// quotient returns what a string without a sign denotes as a numerator and a denominator. The string is so short that both are ints.
func quotient(s string) (num, den int, ok bool) {
	whole, length := scanDigits(s)
	if length == 0 {
		return 0, 0, false
	}
	s = s[length:]
	if behind, is := strings.CutPrefix(s, "/"); is {
		den, length = scanDigits(behind)
		return whole, den, length > 0 && length == len(behind)
	}
	num, den = whole, 1
	if behind, is := strings.CutPrefix(s, "."); is {
		part, places := scanDigits(behind)
		if places == 0 {
			return 0, 0, false
		}
		den = power(places)
		num = whole*den + part
		s = behind[places:]
	}
	if s == "%" {
		return num, 100 * den, true
	}
	return num, den, s == ""
}

// scanDigits returns the number that the decimal digits at the beginning of s denote, and how many they are.
func scanDigits(s string) (n, length int) {
	for _, c := range s {
		if c < '0' || c > '9' {
			break
		}
		n = 10*n + int(c-'0')
		length++
	}
	return n, length
}

// power returns the power of 10 with an exponent.
func power(exponent int) int {
	p := 1
	for range exponent {
		p *= 10
	}
	return p
}
