package fraction_test

import (
	"math"
	"math/big"
	"math/rand"
	"testing"

	"sleuth/api"
	"sleuth/fraction"
)

func frac(num, den int) api.Fraction { return api.Fraction{Num: num, Den: den} }

func rat(f api.Fraction) *big.Rat { return big.NewRat(int64(f.Num), int64(f.Den)) }

// canonical returns the canonical form of a number, and whether it has one, by means of big numbers.
func canonical(x *big.Rat) (api.Fraction, api.Errno) {
	most := big.NewInt(fraction.MaxPart)
	if x.Num().CmpAbs(most) > 0 || x.Denom().Cmp(most) > 0 {
		return api.Fraction{}, api.ErrOverflow
	}
	return frac(int(x.Num().Int64()), int(x.Denom().Int64())), api.OK
}

func floor(x *big.Rat) int {
	return int(new(big.Int).Div(x.Num(), x.Denom()).Int64()) // rounds down, as the denominator is positive
}

func ceil(x *big.Rat) int { return -floor(new(big.Rat).Neg(x)) }

// someFraction returns a canonical fraction whose parts have a random number of bits.
func someFraction(random *rand.Rand) api.Fraction {
	for {
		num := random.Intn(fraction.MaxPart+1) >> random.Intn(21)
		den := random.Intn(fraction.MaxPart+1) >> random.Intn(21)
		if random.Intn(2) == 0 {
			num = -num
		}
		if f, e := fraction.Make(num, den); e == api.OK {
			return f
		}
	}
}

// someFractions contains canonical fractions: small ones, the greatest and least ones, and random ones.
func someFractions() []api.Fraction {
	const most = fraction.MaxPart
	list := []api.Fraction{frac(most, 1), frac(-most, 1), frac(1, most), frac(-1, most), frac(most, most-1), frac(most-1, most), frac(-most, most-1), frac(1-most, most), frac(most-1, 1), frac(1, most-1)}
	for den := 1; den <= 6; den++ {
		for num := -13; num <= 13; num++ {
			if f, e := canonical(big.NewRat(int64(num), int64(den))); e == api.OK && f.Den == den {
				list = append(list, f)
			}
		}
	}
	random := rand.New(rand.NewSource(1))
	for range 60 {
		list = append(list, someFraction(random))
	}
	return list
}

// badFractions are not canonical.
func badFractions() []api.Fraction {
	const most = fraction.MaxPart
	return []api.Fraction{
		{}, frac(1, 0), frac(-1, 0), frac(0, 2), frac(0, -1), frac(2, 4), frac(-2, 4), frac(1, -2), frac(-1, -2), frac(6, 3), frac(most, most),
		frac(most+1, 1), frac(-most-1, 1), frac(1, most+1), frac(most+1, most+2), frac(2*most, 2),
		frac(math.MinInt, 1), frac(math.MinInt, math.MinInt), frac(1, math.MinInt), frac(math.MaxInt, math.MaxInt), frac(math.MaxInt, 1), frac(1, math.MaxInt), frac(math.MinInt, -1), frac(1<<62, 1<<61), frac(3, 1<<62),
	}
}

func expect(t *testing.T, name string, got api.Fraction, e api.Errno, want api.Fraction, wantError api.Errno) {
	t.Helper()
	if got != want || e != wantError {
		t.Errorf("%s = %v, %d; want %v, %d", name, got, e, want, wantError)
	}
}

// The limits that the document names.
func TestLimits(t *testing.T) {
	if fraction.MaxPart != 1<<20 || fraction.MaxPlaces != 6 || fraction.MaxLength != 16 {
		t.Error(fraction.MaxPart, fraction.MaxPlaces, fraction.MaxLength)
	}
}

// P2.1.
func TestCheck(t *testing.T) {
	for _, f := range someFractions() {
		if e := fraction.Check(f); e != api.OK {
			t.Errorf("Check(%v) = %d", f, e)
		}
	}
	for _, f := range badFractions() {
		if e := fraction.Check(f); e != api.ErrForm {
			t.Errorf("Check(%v) = %d", f, e)
		}
	}
}

// P2.2.
func TestMake(t *testing.T) {
	const most = fraction.MaxPart
	for _, c := range []struct {
		num, den int
		want     api.Fraction
		e        api.Errno
	}{
		{6, -8, frac(-3, 4), api.OK},
		{-6, -8, frac(3, 4), api.OK},
		{0, 7, frac(0, 1), api.OK},
		{0, math.MinInt, frac(0, 1), api.OK},
		{5, 0, api.Fraction{}, api.ErrZero},
		{0, 0, api.Fraction{}, api.ErrZero},
		{math.MaxInt, 0, api.Fraction{}, api.ErrZero},
		{most, 1, frac(most, 1), api.OK},
		{-most, 1, frac(-most, 1), api.OK},
		{1, -most, frac(-1, most), api.OK},
		{most + 1, 1, api.Fraction{}, api.ErrOverflow},
		{-most - 1, 1, api.Fraction{}, api.ErrOverflow},
		{1, most + 1, api.Fraction{}, api.ErrOverflow},
		{3 * most, 3, frac(most, 1), api.OK},
		{math.MinInt, math.MinInt, frac(1, 1), api.OK},
		{math.MinInt, 1 << 62, frac(-2, 1), api.OK},
		{math.MinInt, -1, api.Fraction{}, api.ErrOverflow},
		{1, math.MinInt, api.Fraction{}, api.ErrOverflow},
		{1 << 62, math.MinInt, frac(-1, 2), api.OK},
		{math.MaxInt, math.MaxInt, frac(1, 1), api.OK},
		{math.MaxInt, -math.MaxInt, frac(-1, 1), api.OK},
		{math.MaxInt, math.MinInt, api.Fraction{}, api.ErrOverflow},
	} {
		f, e := fraction.Make(c.num, c.den)
		expect(t, "Make", f, e, c.want, c.e)
	}
	random := rand.New(rand.NewSource(2))
	for range 5000 {
		common := int(random.Uint64()) >> (20 + random.Intn(44))
		num, den := (random.Intn(most+2)-random.Intn(most+2))*common, random.Intn(most+2)*common
		if den == 0 {
			continue
		}
		want, wantError := canonical(big.NewRat(int64(num), int64(den)))
		f, e := fraction.Make(num, den)
		expect(t, "Make", f, e, want, wantError)
	}
}

// P2.2.
func TestFromInt(t *testing.T) {
	const most = fraction.MaxPart
	for _, n := range []int{0, 1, -1, 17, most, -most} {
		f, e := fraction.FromInt(n)
		expect(t, "FromInt", f, e, frac(n, 1), api.OK)
	}
	for _, n := range []int{most + 1, -most - 1, math.MaxInt, math.MinInt} {
		f, e := fraction.FromInt(n)
		expect(t, "FromInt", f, e, api.Fraction{}, api.ErrOverflow)
	}
}

// P2.3.
func TestComparisons(t *testing.T) {
	for _, f := range someFractions() {
		if s := fraction.Sign(f); s != rat(f).Sign() {
			t.Errorf("Sign(%v) = %d", f, s)
		}
		for _, g := range someFractions() {
			want := rat(f).Cmp(rat(g))
			less, greater := f, g
			if want > 0 {
				less, greater = g, f
			}
			if c := fraction.Compare(f, g); c != want {
				t.Errorf("Compare(%v, %v) = %d", f, g, c)
			}
			if m := fraction.Min(f, g); m != less {
				t.Errorf("Min(%v, %v) = %v", f, g, m)
			}
			if m := fraction.Max(f, g); m != greater {
				t.Errorf("Max(%v, %v) = %v", f, g, m)
			}
		}
	}
}

// P2.4.
func TestArithmetic(t *testing.T) {
	for _, f := range someFractions() {
		want, _ := canonical(new(big.Rat).Neg(rat(f)))
		expect(t, "Neg", fraction.Neg(f), api.OK, want, api.OK)
		for _, g := range someFractions() {
			want, wantError := canonical(new(big.Rat).Add(rat(f), rat(g)))
			got, e := fraction.Add(f, g)
			expect(t, "Add", got, e, want, wantError)
			want, wantError = canonical(new(big.Rat).Sub(rat(f), rat(g)))
			got, e = fraction.Sub(f, g)
			expect(t, "Sub", got, e, want, wantError)
			want, wantError = canonical(new(big.Rat).Mul(rat(f), rat(g)))
			got, e = fraction.Mul(f, g)
			expect(t, "Mul", got, e, want, wantError)
			want, wantError = api.Fraction{}, api.ErrZero
			if g.Num != 0 {
				want, wantError = canonical(new(big.Rat).Quo(rat(f), rat(g)))
			}
			got, e = fraction.Div(f, g)
			expect(t, "Div", got, e, want, wantError)
		}
	}
	sum, e := fraction.Add(frac(1, 6), frac(1, 3))
	expect(t, "Add", sum, e, frac(1, 2), api.OK)
}

// P2.5.
func TestRounding(t *testing.T) {
	multiples := []int{0, 1, -1, 2, 10, -10, 999, 123456789, -987654321, api.MaxTime, -api.MaxTime, api.MaxTime - 1, 1 - api.MaxTime}
	for _, f := range someFractions() {
		if n := fraction.Floor(f); n != floor(rat(f)) {
			t.Errorf("Floor(%v) = %d", f, n)
		}
		if n := fraction.Ceil(f); n != ceil(rat(f)) {
			t.Errorf("Ceil(%v) = %d", f, n)
		}
		for _, n := range multiples {
			product := new(big.Rat).Mul(rat(f), new(big.Rat).SetInt64(int64(n)))
			low, e := fraction.MulFloor(n, f)
			if low != floor(product) || e != api.OK {
				t.Errorf("MulFloor(%d, %v) = %d, %d", n, f, low, e)
			}
			high, e := fraction.MulCeil(n, f)
			if high != ceil(product) || e != api.OK {
				t.Errorf("MulCeil(%d, %v) = %d, %d", n, f, high, e)
			}
			if low > high || high-low > 1 {
				t.Errorf("MulFloor %d, MulCeil %d", low, high)
			}
		}
		for _, n := range []int{api.MaxTime + 1, -api.MaxTime - 1, math.MaxInt, math.MinInt} {
			if m, e := fraction.MulFloor(n, f); m != 0 || e != api.ErrRange {
				t.Errorf("MulFloor(%d, %v) = %d, %d", n, f, m, e)
			}
			if m, e := fraction.MulCeil(n, f); m != 0 || e != api.ErrRange {
				t.Errorf("MulCeil(%d, %v) = %d, %d", n, f, m, e)
			}
		}
	}
	low, _ := fraction.MulFloor(10, frac(99, 100))
	high, _ := fraction.MulCeil(10, frac(99, 100))
	if low != 9 || high != 10 {
		t.Errorf("MulFloor = %d, MulCeil = %d", low, high)
	}
}

// simplestBetween tries one denominator after another.
func simplestBetween(f, g *big.Rat) *big.Rat {
	for den := int64(1); ; den++ {
		scale := new(big.Rat).SetInt64(den)
		low := floor(new(big.Rat).Mul(f, scale)) + 1
		high := ceil(new(big.Rat).Mul(g, scale)) - 1
		if low > high {
			continue
		}
		// The one with the least magnitude: 0 if possible, otherwise the one next to it.
		return big.NewRat(int64(max(low, min(high, 0))), den)
	}
}

// P2.6.
func TestBetween(t *testing.T) {
	const most = fraction.MaxPart
	for _, c := range []struct {
		f, g, want api.Fraction
		e          api.Errno
	}{
		{frac(1, 3), frac(1, 2), frac(2, 5), api.OK},
		{frac(-1, 2), frac(-1, 3), frac(-2, 5), api.OK},
		{frac(-1, 2), frac(1, 2), frac(0, 1), api.OK},
		{frac(5, 2), frac(9, 2), frac(3, 1), api.OK},
		{frac(-9, 2), frac(-5, 2), frac(-3, 1), api.OK},
		{frac(0, 1), frac(1, 1), frac(1, 2), api.OK},
		{frac(-1, 1), frac(0, 1), frac(-1, 2), api.OK},
		{frac(0, 1), frac(2, 1), frac(1, 1), api.OK},
		{frac(-5, 1), frac(7, 1), frac(0, 1), api.OK},
		{frac(0, 1), frac(1, most-1), frac(1, most), api.OK},
		{frac(most-2, 1), frac(most, 1), frac(most-1, 1), api.OK},
		{frac(1-most, 1), frac(most, 1), frac(0, 1), api.OK},
		{frac(0, 1), frac(1, most), api.Fraction{}, api.ErrOverflow},
		{frac(-1, most), frac(0, 1), api.Fraction{}, api.ErrOverflow},
		{frac(most-1, 1), frac(most, 1), api.Fraction{}, api.ErrOverflow},
		{frac(-most, 1), frac(1-most, 1), api.Fraction{}, api.ErrOverflow},
		{frac(1, most), frac(1, most-1), api.Fraction{}, api.ErrOverflow},
		{frac(1, 2), frac(1, 2), api.Fraction{}, api.ErrOrder},
		{frac(1, 2), frac(1, 3), api.Fraction{}, api.ErrOrder},
		{frac(most, 1), frac(most-1, 1), api.Fraction{}, api.ErrOrder},
		{frac(1, 2), frac(-1, 2), api.Fraction{}, api.ErrOrder},
	} {
		f, e := fraction.Between(c.f, c.g)
		expect(t, "Between", f, e, c.want, c.e)
	}
}

// P2.6 and P2.8: no fraction between two others has a less denominator.
func TestBetweenIsSimplest(t *testing.T) {
	var list []api.Fraction
	for den := 1; den <= 12; den++ {
		for num := -30; num <= 30; num++ {
			if f, e := canonical(big.NewRat(int64(num), int64(den))); e == api.OK && f.Den == den {
				list = append(list, f)
			}
		}
	}
	random := rand.New(rand.NewSource(3))
	for range 40 {
		f, e := fraction.Make(random.Intn(3000)-1500, 1+random.Intn(1000))
		if e == api.OK {
			list = append(list, f)
		}
	}
	for _, f := range list {
		for _, g := range list {
			if rat(f).Cmp(rat(g)) >= 0 {
				continue
			}
			want, wantError := canonical(simplestBetween(rat(f), rat(g)))
			got, e := fraction.Between(f, g)
			if got != want || e != wantError {
				t.Fatalf("Between(%v, %v) = %v, %d; want %v, %d", f, g, got, e, want, wantError)
			}
		}
	}
}

// P2.8: the laws of arithmetic.
func TestLaws(t *testing.T) {
	random := rand.New(rand.NewSource(4))
	chain := func(operation func(f, g api.Fraction) (api.Fraction, api.Errno), f, g, h api.Fraction) (api.Fraction, api.Errno) {
		sum, e := operation(f, g)
		if e != api.OK {
			return sum, e
		}
		return operation(sum, h)
	}
	tested := 0
	for range 3000 {
		f, g, h := someFraction(random), someFraction(random), someFraction(random)
		for name, operation := range map[string]func(f, g api.Fraction) (api.Fraction, api.Errno){"Add": fraction.Add, "Mul": fraction.Mul} {
			fg, e := operation(f, g)
			gf, e2 := operation(g, f)
			expect(t, name+" commutes", fg, e, gf, e2)
			left, e := chain(operation, f, g, h)
			right, e2 := chain(operation, g, h, f)
			if e == api.OK && e2 == api.OK {
				expect(t, name+" associates", left, e, right, e2)
				tested++
			}
		}
		if sum, e := fraction.Add(f, g); e == api.OK {
			back, e := fraction.Sub(sum, g)
			expect(t, "Sub of Add", back, e, f, api.OK)
		}
	}
	if tested < 100 {
		t.Errorf("only %d triples without an error", tested)
	}
}

// P1: fractions that are not canonical do no harm. Results with an error are zero.
func TestFractionsThatAreNotCanonical(t *testing.T) {
	all := append(badFractions(), someFractions()[:12]...)
	ints := []int{0, 1, -1, api.MaxTime, math.MaxInt, math.MinInt}
	zeroWithError := func(name string, f api.Fraction, e api.Errno) {
		if e != api.OK && f != (api.Fraction{}) {
			t.Errorf("%s = %v with the error %d", name, f, e)
		}
	}
	for _, f := range all {
		fraction.Sign(f)
		fraction.Neg(f)
		fraction.Floor(f)
		fraction.Ceil(f)
		fraction.Print(f)
		for _, n := range ints {
			if m, e := fraction.MulFloor(n, f); e != api.OK && m != 0 {
				t.Error("MulFloor", m, e)
			}
			if m, e := fraction.MulCeil(n, f); e != api.OK && m != 0 {
				t.Error("MulCeil", m, e)
			}
			if s, e := fraction.Decimal(f, n); e != api.OK && s != "" {
				t.Error("Decimal", s, e)
			}
		}
		for _, g := range all {
			fraction.Compare(f, g)
			fraction.Min(f, g)
			fraction.Max(f, g)
			sum, e := fraction.Add(f, g)
			zeroWithError("Add", sum, e)
			difference, e := fraction.Sub(f, g)
			zeroWithError("Sub", difference, e)
			product, e := fraction.Mul(f, g)
			zeroWithError("Mul", product, e)
			quotient, e := fraction.Div(f, g)
			zeroWithError("Div", quotient, e)
			between, e := fraction.Between(f, g)
			zeroWithError("Between", between, e)
		}
	}
}
