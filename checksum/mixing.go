package checksum

// The factors of the mixing function are odd, so a product by one of them can be undone.
const (
	seedFactor   = 0x9E3779B97F4A7C15
	firstFactor  = 0xBF58476D1CE4E5B9
	secondFactor = 0x94D049BB133111EB
)

// Word mixes a word with a seed.
func Word(seed, n uint64) uint64 {
	z := seed*seedFactor + n
	z = (z ^ z>>30) * firstFactor
	z = (z ^ z>>27) * secondFactor
	return z ^ z>>31
}

// Inverse returns the word that a seed mixes to w.
func Inverse(seed, w uint64) uint64 {
	z := unshift(w, 31)
	z = unshift(z*reciprocal(secondFactor), 27)
	z = unshift(z*reciprocal(firstFactor), 30)
	return z - seed*seedFactor
}

// Mix mixes an int with a seed.
func Mix(seed, n int) int { return shorten(Word(uint64(seed), uint64(n))) }

// Text mixes a string with a seed.
func Text(seed int, s string) int {
	h := Word(uint64(seed), uint64(len(s)))
	for i := range len(s) {
		h = Word(h, uint64(s[i]))
	}
	return shorten(h)
}

// shorten makes an int that is not negative of a word.
func shorten(w uint64) int { return int(w / 4) }

// unshift returns the z for which z xor (z >> by) is w, for shifts of a third of a word or more.
func unshift(w uint64, by int) uint64 { return w ^ w>>by ^ w>>(2*by) }

// reciprocal returns the number whose product with an odd factor is 1.
func reciprocal(factor uint64) uint64 {
	// An odd number is its own reciprocal in the lowest 3 bits, and each step doubles the number of bits that are right.
	x := factor
	for range 5 {
		x *= 2 - factor*x
	}
	return x
}
