package checksum_test

import (
	"hash/crc32"
	"math"
	"math/rand"
	"slices"
	"strings"
	"testing"

	"sleuth/api"
	"sleuth/checksum"
)

// The period of Z: that many bytes that are zero leave every register as it is.
const period = 1<<31 - 1

// fed returns what a register becomes by some bytes, bit by bit as the document describes it.
func fed(register uint32, s string) uint32 {
	for _, b := range []byte(s) {
		register ^= uint32(b)
		for range 8 {
			out := register & 1
			register >>= 1
			if out == 1 {
				register ^= 0x82F63B78
			}
		}
	}
	return register
}

func randomText(random *rand.Rand, most int) string {
	b := make([]byte, random.Intn(most+1))
	random.Read(b)
	return string(b)
}

func combined(t *testing.T, a, b uint32, n int) uint32 {
	t.Helper()
	sum, e := checksum.Combine(a, b, n)
	if e != api.OK {
		t.Fatalf("Combine(%X, %X, %d): %d", a, b, n, e)
	}
	return sum
}

// P4.2 and P4.3: the examples of the document.
func TestSumExamples(t *testing.T) {
	if got := checksum.Sum("123456789"); got != 0xE3069283 {
		t.Errorf("Sum: %X", got)
	}
	if got := checksum.Sum(""); got != 0 {
		t.Errorf("Sum of the empty string: %X", got)
	}
	if got := combined(t, checksum.Sum("1234"), checksum.Sum("56789"), 5); got != 0xE3069283 {
		t.Errorf("Combine: %X", got)
	}
}

// P4.2.
func TestSum(t *testing.T) {
	random := rand.New(rand.NewSource(4))
	castagnoli := crc32.MakeTable(crc32.Castagnoli)
	texts := []string{"\x00", "\xff", "\x00\x00\x00\x00", "\xff\xff\xff\xff", strings.Repeat("x", 100000)}
	for b := range 256 {
		texts = append(texts, string([]byte{byte(b)}))
	}
	for range 1000 {
		texts = append(texts, randomText(random, 100))
	}
	for _, s := range texts {
		if got := checksum.Sum(s); got != crc32.Checksum([]byte(s), castagnoli) || got != ^fed(math.MaxUint32, s) {
			t.Errorf("Sum(%q): %X", s, got)
		}
	}
}

// P4.2: of a string that goes on, and for any number instead of a checksum.
func TestExtend(t *testing.T) {
	random := rand.New(rand.NewSource(5))
	for range 1000 {
		s, more := randomText(random, 50), randomText(random, 50)
		if checksum.Extend(checksum.Sum(s), more) != checksum.Sum(s+more) {
			t.Errorf("Extend of %q by %q", s, more)
		}
		for _, sum := range []uint32{0, 1, math.MaxUint32, random.Uint32()} {
			if checksum.Extend(sum, more) != ^fed(^sum, more) {
				t.Errorf("Extend of %X by %q", sum, more)
			}
			if checksum.Extend(sum, "") != sum {
				t.Errorf("Extend of %X by nothing", sum)
			}
		}
	}
}

// P4.3: of the checksums of strings, and of all other numbers.
func TestCombine(t *testing.T) {
	random := rand.New(rand.NewSource(6))
	for range 1000 {
		s, more := randomText(random, 50), randomText(random, 50)
		if combined(t, checksum.Sum(s), checksum.Sum(more), len(more)) != checksum.Sum(s+more) {
			t.Errorf("Combine of %q and %q", s, more)
		}
		a, b, n := random.Uint32(), random.Uint32(), random.Intn(3000)
		want := fed(a, strings.Repeat("\x00", n)) ^ b
		if combined(t, a, b, n) != want {
			t.Errorf("Combine(%X, %X, %d)", a, b, n)
		}
	}
	long := strings.Repeat("abc", 100000)
	if combined(t, checksum.Sum("x"), checksum.Sum(long), len(long)) != checksum.Sum("x"+long) {
		t.Error("Combine with a long string")
	}
}

// P4.3: great numbers of bytes, and errors.
func TestCombineLimits(t *testing.T) {
	const most = checksum.MaxLength
	if most != 1<<40 {
		t.Error("MaxLength")
	}
	random := rand.New(rand.NewSource(7))
	for range 200 {
		a, b, n := random.Uint32(), random.Uint32(), random.Intn(5000)
		for _, periods := range []int{1, 2, 3, 511} {
			if combined(t, a, b, periods*period+n) != combined(t, a, b, n) {
				t.Errorf("Combine of %d periods and %d bytes", periods, n)
			}
		}
		if combined(t, a, b, most) != combined(t, a, b, most%period) {
			t.Error("Combine of the greatest number")
		}
	}
	for _, n := range []int{-1, most + 1, math.MinInt, math.MaxInt} {
		if sum, e := checksum.Combine(1, 2, n); sum != 0 || e != api.ErrRange {
			t.Errorf("Combine(1, 2, %d): %X, %d", n, sum, e)
		}
	}
}

// P4.5: combining three checksums in either order gives the same.
func TestCombineIsAssociative(t *testing.T) {
	random := rand.New(rand.NewSource(8))
	for range 500 {
		a, b, c := random.Uint32(), random.Uint32(), random.Uint32()
		m, n := random.Intn(1<<39), random.Intn(1<<39)
		if combined(t, combined(t, a, b, m), c, n) != combined(t, a, combined(t, b, c, n), m+n) {
			t.Errorf("%X, %X, %X, %d, %d", a, b, c, m, n)
		}
	}
}

// P4.5: of all strings of 24 bytes, by linearity: the exclusive or of the checksums of two of them depends on that of the strings only.
func TestChangedBits(t *testing.T) {
	const size = 24
	zero := checksum.Sum(string(make([]byte, size)))
	var changes []uint32
	for bit := range 8 * size {
		b := make([]byte, size)
		b[bit/8] = 1 << (bit % 8)
		changes = append(changes, checksum.Sum(string(b))^zero)
	}
	seen := map[uint32]bool{0: true}
	for _, c := range changes {
		if seen[c] {
			t.Fatal("one or two changed bits are not found")
		}
		seen[c] = true
	}
	for i, c := range changes {
		for _, d := range changes[:i] {
			if seen[c^d] {
				t.Fatal("three changed bits are not found")
			}
		}
	}
}

// P4.5: the bits of strings of almost 2^28 bytes, at random places.
func TestChangedBitsOfLongStrings(t *testing.T) {
	random := rand.New(rand.NewSource(9))
	change := func() (int, uint32) {
		place := random.Intn(8<<28 - 8)
		bit := 1 << (place % 8)
		return place, combined(t, checksum.Sum(string([]byte{byte(bit)}))^checksum.Sum("\x00"), 0, place/8)
	}
	for range 2000 {
		placeA, a := change()
		placeB, b := change()
		placeC, c := change()
		if placeA == placeB || placeA == placeC || placeB == placeC {
			continue
		}
		if a == 0 || a == b || a == c || b == c || a^b == c {
			t.Errorf("the bits %d, %d and %d", placeA, placeB, placeC)
		}
	}
}

// P4.5: strings that differ only within 32 consecutive bits.
func TestChangesWithin32Bits(t *testing.T) {
	random := rand.New(rand.NewSource(10))
	for range 20000 {
		b := []byte(randomText(random, 40) + "12345")
		sum := checksum.Sum(string(b))
		pattern := uint64(random.Uint32()|1) << random.Intn(8)
		place := random.Intn(len(b) - 4)
		for i := range 5 {
			b[place+i] ^= byte(pattern >> (8 * i))
		}
		if checksum.Sum(string(b)) == sum {
			t.Errorf("the pattern %X at %d is not found", pattern, place)
		}
	}
	// Two strings of two bytes differ only within 16 bits, so all of these have different checksums.
	sums := map[uint32]bool{}
	for n := range 1 << 16 {
		sums[checksum.Sum(string([]byte{byte(n), byte(n >> 8)}))] = true
	}
	if len(sums) != 1<<16 {
		t.Error("two strings of two bytes have the same checksum")
	}
}

// P1: whatever the arguments are, nothing panics, and together with an error there are zero values.
func TestGarbage(t *testing.T) {
	random := rand.New(rand.NewSource(11))
	for range 3000 {
		text, n, word := randomText(random, 30), int(random.Uint64()), random.Uint64()
		checksum.Word(word, uint64(n))
		checksum.Inverse(word, uint64(n))
		checksum.Mix(n, int(word))
		checksum.Text(n, text)
		checksum.Sum(text)
		checksum.Extend(uint32(word), text)
		if sum, e := checksum.Combine(uint32(word), uint32(n), n>>random.Intn(64)); e != api.OK && sum != 0 {
			t.Errorf("Combine: %X with the error %d", sum, e)
		}
		checksum.Link(uint32(word), text)
		records := slices.Repeat([]string{text}, random.Intn(5))
		links := slices.Repeat([]uint32{uint32(word)}, random.Intn(5))
		checksum.Chain(records)
		if i, ok := checksum.Verify(records, links); i < 0 || i > len(records) || i > len(links) || ok && len(records)+len(links) > 0 {
			t.Errorf("Verify of %d records and %d links: %d, %v", len(records), len(links), i, ok)
		}
	}
}
