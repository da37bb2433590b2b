package checksum_test

import (
	"math"
	"math/big"
	"math/rand"
	"strings"
	"testing"

	"sleuth/checksum"
)

// mixed computes a mixed word by the steps of the document, with big numbers.
func mixed(seed, n *big.Int) *big.Int {
	modulus := new(big.Int).Lsh(big.NewInt(1), 64)
	product := func(a *big.Int, factor string) *big.Int {
		f, _ := new(big.Int).SetString(factor, 16)
		return f.Mul(a, f).Mod(f, modulus)
	}
	shifted := func(a *big.Int, by uint) *big.Int { return new(big.Int).Xor(a, new(big.Int).Rsh(a, by)) }
	z := product(seed, "9E3779B97F4A7C15")
	z.Add(z, n).Mod(z, modulus)
	z = product(shifted(z, 30), "BF58476D1CE4E5B9")
	z = product(shifted(z, 27), "94D049BB133111EB")
	return shifted(z, 31)
}

func big64(n uint64) *big.Int { return new(big.Int).SetUint64(n) }

// mixedText computes the mixed text of a seed and a string, divided by 4.
func mixedText(seed int, s string) int {
	h := mixed(big.NewInt(int64(seed)), big.NewInt(int64(len(s))))
	for _, b := range []byte(s) {
		h = mixed(h, big.NewInt(int64(b)))
	}
	return int(h.Rsh(h, 2).Int64())
}

// words are interesting words and random ones.
func words(random *rand.Rand) []uint64 {
	list := []uint64{0, 1, 2, 3, 1 << 27, 1 << 30, 1 << 31, 1<<31 - 1, 1 << 32, 1<<63 - 1, 1 << 63, math.MaxUint64 - 1, math.MaxUint64}
	for shift := range 64 {
		list = append(list, 1<<shift, 1<<shift-1)
	}
	for range 500 {
		list = append(list, random.Uint64())
	}
	return list
}

// P4.1: the example of the document, and the words of the well-known generator with these steps, whose state begins with 0.
func TestWordExamples(t *testing.T) {
	for i, want := range []uint64{0xE220A8397B1DCDAF, 0x6E789E6AA1B965F4, 0x06C45D188009454F, 0xF88BB8A8724C81EC, 0x1B39896A51A8749B} {
		if got := checksum.Word(uint64(i+1), 0); got != want {
			t.Errorf("Word(%d, 0): %X, want %X", i+1, got, want)
		}
	}
	if got := checksum.Inverse(1, 0xE220A8397B1DCDAF); got != 0 {
		t.Errorf("Inverse: %d", got)
	}
	if checksum.Word(0, 0) != 0 || checksum.Inverse(0, 0) != 0 {
		t.Error("0 is not mixed to 0")
	}
}

// P4.1.
func TestWordAndInverse(t *testing.T) {
	random := rand.New(rand.NewSource(1))
	seeds := words(random)
	for i, n := range words(random) {
		for _, seed := range []uint64{seeds[i], seeds[len(seeds)-1-i]} {
			w := checksum.Word(seed, n)
			if mixed(big64(seed), big64(n)).Cmp(big64(w)) != 0 {
				t.Errorf("Word(%X, %X): %X", seed, n, w)
			}
			if got := checksum.Inverse(seed, w); got != n {
				t.Errorf("Inverse(%X, %X): %X, want %X", seed, w, got, n)
			}
			if got := checksum.Word(seed, checksum.Inverse(seed, n)); got != n {
				t.Errorf("Word of Inverse(%X, %X): %X", seed, n, got)
			}
		}
	}
}

// P4.1: negative ints are taken modulo 2^64, and the result is no negative number.
func TestMix(t *testing.T) {
	random := rand.New(rand.NewSource(2))
	numbers := []int{0, 1, -1, 2, -2, 1 << 40, -1 << 40, math.MaxInt, math.MinInt}
	for range 200 {
		numbers = append(numbers, int(random.Uint64()))
	}
	for _, seed := range numbers {
		for _, n := range numbers {
			want := mixed(big.NewInt(int64(seed)), new(big.Int).Mod(big.NewInt(int64(n)), new(big.Int).Lsh(big.NewInt(1), 64)))
			if got := checksum.Mix(seed, n); got != int(want.Rsh(want, 2).Int64()) || got < 0 || got >= 1<<62 {
				t.Errorf("Mix(%d, %d): %d, want %d", seed, n, got, want)
			}
		}
	}
	if checksum.Mix(1, 0) != 0xE220A8397B1DCDAF/4 {
		t.Error("Mix(1, 0)")
	}
}

// P4.1.
func TestText(t *testing.T) {
	random := rand.New(rand.NewSource(3))
	texts := []string{"", "\x00", "\x00\x00", "a", "ab", "ba", "\xff", "é", strings.Repeat("x", 300)}
	for range 100 {
		b := make([]byte, random.Intn(20))
		random.Read(b)
		texts = append(texts, string(b))
	}
	for _, seed := range []int{0, 1, -1, 5, math.MaxInt, math.MinInt, int(random.Uint64())} {
		found := map[int]string{}
		for _, s := range texts {
			got := checksum.Text(seed, s)
			if got != mixedText(seed, s) || got < 0 || got >= 1<<62 {
				t.Errorf("Text(%d, %q): %d", seed, s, got)
			}
			if other, is := found[got]; is && other != s {
				t.Errorf("Text(%d): %q and %q have the same mixed text", seed, s, other)
			}
			found[got] = s
		}
	}
	if checksum.Text(1, "") != checksum.Mix(1, 0) || checksum.Text(0, "") != 0 {
		t.Error("Text of the empty string")
	}
}
