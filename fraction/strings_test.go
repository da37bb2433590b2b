package fraction_test

import (
	"math"
	"math/big"
	"math/rand"
	"regexp"
	"strings"
	"testing"

	"sleuth/api"
	"sleuth/fraction"
)

// P2.7.
func TestPrint(t *testing.T) {
	for f, want := range map[api.Fraction]string{
		frac(-3, 4): "-3/4",
		frac(7, 1):  "7",
		frac(-7, 1): "-7",
		frac(0, 1):  "0",
		frac(1, 2):  "1/2",
		frac(1-fraction.MaxPart, fraction.MaxPart): "-1048575/1048576",
		frac(-fraction.MaxPart, 1):                 "-1048576",
		frac(fraction.MaxPart, 3):                  "1048576/3",
	} {
		if s := fraction.Print(f); s != want {
			t.Errorf("Print(%v) = %q", f, s)
		}
	}
}

// P2.8: Parse is the inverse of Print.
func TestParseInvertsPrint(t *testing.T) {
	for _, f := range someFractions() {
		s := fraction.Print(f)
		g, e := fraction.Parse(s)
		expect(t, "Parse of "+s, g, e, f, api.OK)
	}
}

// P2.7.
func TestParse(t *testing.T) {
	for _, c := range []struct {
		s    string
		want api.Fraction
		e    api.Errno
	}{
		{"3/4", frac(3, 4), api.OK},
		{"0.75", frac(3, 4), api.OK},
		{"75%", frac(3, 4), api.OK},
		{"75.00%", frac(3, 4), api.OK},
		{"99.9%", frac(999, 1000), api.OK},
		{"-99.9%", frac(-999, 1000), api.OK},
		{"0", frac(0, 1), api.OK},
		{"-0", frac(0, 1), api.OK},
		{"-0.00%", frac(0, 1), api.OK},
		{"0/9", frac(0, 1), api.OK},
		{"007/0014", frac(1, 2), api.OK},
		{"-12/8", frac(-3, 2), api.OK},
		{"1048576", frac(1048576, 1), api.OK},
		{"1/1048576", frac(1, 1048576), api.OK},
		{"0000000000000001", frac(1, 1), api.OK},
		{"999999999.000000", api.Fraction{}, api.ErrOverflow},
		{"5000000/00000005", frac(1000000, 1), api.OK},
		{"0.00000000000000", frac(0, 1), api.OK},
		{"0.0000000000001%", api.Fraction{}, api.ErrOverflow},
		{"9999999999999999", api.Fraction{}, api.ErrOverflow},
		{"9999999/99999999", api.Fraction{}, api.ErrOverflow},
		{"1048577", api.Fraction{}, api.ErrOverflow},
		{"1/1048577", api.Fraction{}, api.ErrOverflow},
		{"0.0000001", api.Fraction{}, api.ErrOverflow},
		{"1/0", api.Fraction{}, api.ErrZero},
		{"0/0", api.Fraction{}, api.ErrZero},
		{"-99999999/000000", api.Fraction{}, api.ErrZero},
		{"00000000000000001", api.Fraction{}, api.ErrLong},
		{"xxxxxxxxxxxxxxxxx", api.Fraction{}, api.ErrLong},
		{"1/000000000000000", api.Fraction{}, api.ErrLong},
		{"1/0%", api.Fraction{}, api.ErrSyntax},
		{"1/2%", api.Fraction{}, api.ErrSyntax},
	} {
		f, e := fraction.Parse(c.s)
		expect(t, "Parse of "+c.s, f, e, c.want, c.e)
	}
	for _, s := range []string{"", "-", "+1", "--1", " 1", "1 ", "1-", ".5", "5.", "-.5", "5.%", "1/", "/2", "1/-2", "1/2/3", "1.2.3", "1.2/3", "1/2.3", "%", "-%", "5%%", "%5", "5%1", "1e3", "0x1", "1_0", "1,5", "a", "1a", "1.a", "1/a", "\x00", "1\x00", "٣", "１", "1/٣", "\xff", "5\xff", "1.5\n"} {
		f, e := fraction.Parse(s)
		expect(t, "Parse of "+s, f, e, api.Fraction{}, api.ErrSyntax)
	}
}

var denotes = regexp.MustCompile(`^(-?)([0-9]+)(?:/([0-9]+)|(?:\.([0-9]+))?(%?))$`)

// parsed does what Parse should, by means of a regular expression and big numbers.
func parsed(s string) (api.Fraction, api.Errno) {
	if len(s) > fraction.MaxLength {
		return api.Fraction{}, api.ErrLong
	}
	m := denotes.FindStringSubmatch(s)
	if m == nil {
		return api.Fraction{}, api.ErrSyntax
	}
	whole, _ := new(big.Rat).SetString(m[1] + m[2] + "." + m[4] + "0")
	if m[3] != "" {
		below, _ := new(big.Rat).SetString(m[3])
		if below.Sign() == 0 {
			return api.Fraction{}, api.ErrZero
		}
		whole.Quo(whole, below)
	}
	if m[5] == "%" {
		whole.Quo(whole, big.NewRat(100, 1))
	}
	return canonical(whole)
}

// P2.7, and P1 for Parse: all short strings of the bytes that matter, and random longer ones.
func TestParseAgreesWithGrammar(t *testing.T) {
	check := func(s string) {
		want, wantError := parsed(s)
		f, e := fraction.Parse(s)
		expect(t, "Parse of "+s, f, e, want, wantError)
	}
	const letters = "05-/.%x"
	lists := []string{""}
	for range 6 {
		var longer []string
		for _, s := range lists {
			check(s)
			for i := range letters {
				longer = append(longer, s+letters[i:i+1])
			}
		}
		lists = longer
	}
	random := rand.New(rand.NewSource(5))
	denoted := 0
	for range 100000 {
		var b strings.Builder
		for range random.Intn(19) {
			b.WriteByte("0123456789012345678901234567890123456789-/.%"[random.Intn(44)])
		}
		check(b.String())
		if _, e := fraction.Parse(b.String()); e == api.OK {
			denoted++
		}
	}
	if denoted < 1000 {
		t.Errorf("only %d random strings denoted a fraction", denoted)
	}
}

// P2.7.
func TestDecimal(t *testing.T) {
	for _, c := range []struct {
		f      api.Fraction
		places int
		want   string
	}{
		{frac(-1, 3), 2, "-0.34"},
		{frac(-1, 3), 0, "-1"},
		{frac(-1, 1048576), 6, "-0.000001"},
		{frac(-1, 1048576), 1, "-0.1"},
		{frac(1, 1048576), 6, "0.000000"},
		{frac(1, 1048576), 0, "0"},
		{frac(0, 1), 0, "0"},
		{frac(0, 1), 3, "0.000"},
		{frac(-1, 8), 3, "-0.125"},
		{frac(1, 8), 2, "0.12"},
		{frac(-21, 2), 1, "-10.5"},
		{frac(21, 2), 0, "10"},
		{frac(-21, 2), 0, "-11"},
		{frac(5, 1), 1, "5.0"},
		{frac(100, 1), 2, "100.00"},
		{frac(99, 100), 1, "0.9"},
		{frac(1048576, 1), 6, "1048576.000000"},
		{frac(-1048576, 1), 6, "-1048576.000000"},
		{frac(1048575, 1048576), 6, "0.999999"},
		{frac(-1048575, 1048576), 6, "-1.000000"},
		{frac(1, 10), 6, "0.100000"},
		{frac(1, 100), 1, "0.0"},
	} {
		if s, e := fraction.Decimal(c.f, c.places); s != c.want || e != api.OK {
			t.Errorf("Decimal(%v, %d) = %q, %d; want %q", c.f, c.places, s, e, c.want)
		}
	}
	for _, places := range []int{-1, fraction.MaxPlaces + 1, math.MinInt, math.MaxInt} {
		if s, e := fraction.Decimal(frac(1, 2), places); s != "" || e != api.ErrRange {
			t.Errorf("Decimal with %d places = %q, %d", places, s, e)
		}
	}
}

var decimal = regexp.MustCompile(`^-?(0|[1-9][0-9]*)(\.[0-9]+)?$`)

// P2.7 and P2.8: what Decimal returns is accepted, and less by less than a unit of the last place.
func TestDecimalRoundsDown(t *testing.T) {
	for _, f := range someFractions() {
		for places := range fraction.MaxPlaces + 1 {
			s, e := fraction.Decimal(f, places)
			value, ok := new(big.Rat).SetString(s)
			if e != api.OK || !ok || !decimal.MatchString(s) {
				t.Fatalf("Decimal(%v, %d) = %q, %d", f, places, s, e)
			}
			if digits := len(s) - 1 - strings.Index(s, "."); strings.Contains(s, ".") != (places > 0) || places > 0 && digits != places {
				t.Errorf("Decimal(%v, %d) = %q", f, places, s)
			}
			if strings.HasPrefix(s, "-") != (value.Sign() < 0) {
				t.Errorf("Decimal(%v, %d) = %q", f, places, s)
			}
			less := new(big.Rat).Sub(rat(f), value)
			unit := new(big.Rat).SetFrac64(1, int64(math.Pow10(places)))
			if less.Sign() < 0 || less.Cmp(unit) >= 0 {
				t.Errorf("Decimal(%v, %d) = %q", f, places, s)
			}
			want, wantError := canonical(value)
			g, e := fraction.Parse(s)
			expect(t, "Parse of "+s, g, e, want, wantError)
		}
	}
}
