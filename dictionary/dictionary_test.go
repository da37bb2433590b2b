package dictionary_test

import (
	"fmt"
	"math"
	"math/rand"
	"slices"
	"strings"
	"testing"

	"sleuth/api"
	"sleuth/dictionary"
)

const (
	most    = dictionary.MaxEntries
	longest = dictionary.MaxString
)

// x returns a string of so many bytes.
func x(size int) string { return strings.Repeat("x", size) }

// numbered returns so many strings in increasing order.
func numbered(from, size int) []string {
	var l []string
	for n := range size {
		l = append(l, fmt.Sprintf("%06d", from+n))
	}
	return l
}

// someStrings returns strings of few different bytes, of which many have beginnings in common, and some occur twice.
func someStrings(random *rand.Rand) []string {
	letters := []string{"ab", "a\x00", "\xff\x7f\x80", "abcdefgh"}[random.Intn(4)]
	var l []string
	for range random.Intn(70) {
		b := make([]byte, random.Intn(7))
		for i := range b {
			b[i] = letters[random.Intn(len(letters))]
		}
		before := ""
		if len(l) > 0 && random.Intn(2) == 0 {
			before = l[len(l)-1]
		}
		if s := before + string(b); len(s) <= longest {
			l = append(l, s)
		}
	}
	return l
}

// different returns the strings of lists, each once and in order.
func different(lists ...[]string) []string {
	in := map[string]bool{}
	for _, l := range lists {
		for _, s := range l {
			in[s] = true
		}
	}
	var d []string
	for s := range in {
		d = append(d, s)
	}
	slices.Sort(d)
	return d
}

func expectStrings(t *testing.T, what string, got []string, e api.Errno, want []string, wantErr api.Errno) {
	t.Helper()
	if !slices.Equal(got, want) || e != wantErr {
		t.Errorf("%s: %.300q, %d; want %.300q, %d", what, got, e, want, wantErr)
	}
}

func expectInts(t *testing.T, what string, got []int, e api.Errno, want []int, wantErr api.Errno) {
	t.Helper()
	if !slices.Equal(got, want) || e != wantErr {
		t.Errorf("%s: %v, %d; want %v, %d", what, got, e, want, wantErr)
	}
}

// P6.1, P6.2, P6.4 and P6.6: the examples of the document.
func TestExamples(t *testing.T) {
	d, e := dictionary.Build([]string{"b", "a", "ab", "a"})
	expectStrings(t, "Build", d, e, []string{"a", "ab", "b"}, api.OK)
	if p := dictionary.Prefix(d, "a"); p != (api.Interval{From: 0, To: 2}) {
		t.Errorf("Prefix: %v", p)
	}
	if n := dictionary.Lower(d, "aa"); n != 1 {
		t.Errorf("Lower: %d", n)
	}
	d, fromA, fromB, e := dictionary.Merge([]string{"a", "c"}, []string{"b", "c"})
	expectStrings(t, "Merge", d, e, []string{"a", "b", "c"}, api.OK)
	expectInts(t, "Merge, first remap", fromA, e, []int{0, 2}, api.OK)
	expectInts(t, "Merge, second remap", fromB, e, []int{1, 2}, api.OK)
	kept, from, e := dictionary.Keep([]string{"a", "b", "c"}, []int{2, 0, 2})
	expectStrings(t, "Keep", kept, e, []string{"a", "c"}, api.OK)
	expectInts(t, "Keep, remap", from, e, []int{0, -1, 1}, api.OK)
	if form, e := dictionary.Encode([]string{"api", "app"}); form != "\x00\x02\x03api\x02\x01p" || e != api.OK {
		t.Errorf("Encode: %q, %d", form, e)
	}
}

// The limits that the document names.
func TestLimits(t *testing.T) {
	if dictionary.MaxEntries != 4096 || dictionary.MaxString != 255 || dictionary.PerGroup != 16 {
		t.Error("a limit is wrong")
	}
}

// P6.1.
func TestCheck(t *testing.T) {
	for _, c := range []struct {
		d []string
		e api.Errno
	}{
		{nil, api.OK},
		{[]string{}, api.OK},
		{[]string{""}, api.OK},
		{[]string{"", "a"}, api.OK},
		{[]string{"a", "ab", "b"}, api.OK},
		{[]string{"a\x00", "a\x01", "z", "\x7f", "\x80", "\xff"}, api.OK},
		{[]string{"a", "a"}, api.ErrOrder},
		{[]string{"", ""}, api.ErrOrder},
		{[]string{"a", ""}, api.ErrOrder},
		{[]string{"ab", "a"}, api.ErrOrder},
		{[]string{"a", "c", "b"}, api.ErrOrder},
		{[]string{"\xff", "z"}, api.ErrOrder},
		{[]string{x(longest)}, api.OK},
		{[]string{x(longest - 1), x(longest)}, api.OK},
		{[]string{x(longest + 1)}, api.ErrLong},
		{[]string{"a", x(longest + 1)}, api.ErrLong},
		{[]string{"b", "a", x(longest + 1)}, api.ErrOrder},
		{[]string{"b", x(longest + 1), "a"}, api.ErrLong},
		{[]string{"z", x(longest + 1)}, api.ErrLong},
		{numbered(0, most), api.OK},
		{numbered(0, most+1), api.ErrLimit},
		{append([]string{x(longest + 1), "b", "a"}, numbered(0, most)...), api.ErrLimit},
		{make([]string, most+1), api.ErrLimit},
		{make([]string, most), api.ErrOrder},
	} {
		if e := dictionary.Check(c.d); e != c.e {
			t.Errorf("Check(%.100q): %d, want %d", c.d, e, c.e)
		}
	}
}

// P6.1.
func TestBuild(t *testing.T) {
	twice := slices.Concat(numbered(0, most), numbered(0, most))
	slices.Reverse(twice)
	for _, c := range []struct {
		l, want []string
		e       api.Errno
	}{
		{nil, nil, api.OK},
		{[]string{}, nil, api.OK},
		{[]string{"", "", ""}, []string{""}, api.OK},
		{[]string{"b", "", "a", "b"}, []string{"", "a", "b"}, api.OK},
		{[]string{"\xff", "z", "\x80", "Z"}, []string{"Z", "z", "\x80", "\xff"}, api.OK},
		{[]string{x(longest), "y"}, []string{x(longest), "y"}, api.OK},
		{[]string{x(longest + 1)}, nil, api.ErrLong},
		{[]string{"b", "a", x(longest + 1), "c"}, nil, api.ErrLong},
		{numbered(7, most), numbered(7, most), api.OK},
		{twice, numbered(0, most), api.OK},
		{numbered(0, most+1), nil, api.ErrLimit},
		{append(slices.Clone(twice), "other"), nil, api.ErrLimit},
		{append(numbered(0, most+1), x(longest+1)), nil, api.ErrLong},
		{append([]string{x(longest + 1)}, numbered(0, most+1)...), nil, api.ErrLong},
	} {
		d, e := dictionary.Build(c.l)
		expectStrings(t, fmt.Sprintf("Build(%.100q)", c.l), d, e, c.want, c.e)
	}
	random := rand.New(rand.NewSource(1))
	for range 500 {
		l := someStrings(random)
		given := slices.Clone(l)
		d, e := dictionary.Build(l)
		expectStrings(t, "Build", d, e, different(l), api.OK)
		if dictionary.Check(d) != api.OK {
			t.Errorf("Build(%q) is no dictionary", l)
		}
		if !slices.Equal(l, given) {
			t.Fatal("the argument of Build was modified")
		}
	}
}

// expectFound compares Find, Lower and Prefix for a string with what a look at all strings finds.
func expectFound(t *testing.T, d []string, s string) {
	t.Helper()
	lower, size := 0, 0
	for _, other := range d {
		if other < s {
			lower++
		}
		if strings.HasPrefix(other, s) {
			size++
		}
	}
	code, isFound := dictionary.Find(d, s)
	want := max(slices.Index(d, s), 0)
	if code != want || isFound != slices.Contains(d, s) {
		t.Errorf("Find(%q, %q): %d, %v", d, s, code, isFound)
	}
	if n := dictionary.Lower(d, s); n != lower {
		t.Errorf("Lower(%q, %q): %d, want %d", d, s, n, lower)
	}
	if p := dictionary.Prefix(d, s); p != (api.Interval{From: lower, To: lower + size}) {
		t.Errorf("Prefix(%q, %q): %v, want %d strings from %d on", d, s, p, size, lower)
	}
}

// P6.2.
func TestFind(t *testing.T) {
	random := rand.New(rand.NewSource(2))
	for _, s := range []string{"", "a", x(longest + 1)} {
		expectFound(t, nil, s)
		expectFound(t, []string{""}, s)
		expectFound(t, []string{"a"}, s)
		expectFound(t, []string{x(longest - 1), x(longest)}, s)
		expectFound(t, numbered(0, most), s)
	}
	for range 300 {
		d := different(someStrings(random))
		sought := []string{"", "\xff\xff", "\x00", "ab", "zzz"}
		for _, s := range append(slices.Clone(d), someStrings(random)...) {
			sought = append(sought, s, s+"\x00", s+"\xff", s[:len(s)/2])
		}
		for _, s := range sought {
			expectFound(t, d, s)
		}
	}
}

// P6.3.
func TestCodes(t *testing.T) {
	d := []string{"", "a", "ab", "b"}
	for _, c := range []struct {
		d, l []string
		want []int
		e    api.Errno
	}{
		{d, nil, nil, api.OK},
		{nil, nil, nil, api.OK},
		{d, []string{"b", "", "b", "ab"}, []int{3, 0, 3, 2}, api.OK},
		{d, []string{"c"}, nil, api.ErrNotFound},
		{d, []string{"a", "", "aa"}, nil, api.ErrNotFound},
		{d, []string{"aa", "a"}, nil, api.ErrNotFound},
		{nil, []string{""}, nil, api.ErrNotFound},
		{d, []string{x(longest + 1)}, nil, api.ErrNotFound},
	} {
		codes, e := dictionary.Codes(c.d, c.l)
		expectInts(t, fmt.Sprintf("Codes(%q, %q)", c.d, c.l), codes, e, c.want, c.e)
	}
}

// P6.3.
func TestStrings(t *testing.T) {
	d := []string{"", "a", "ab", "b"}
	for _, c := range []struct {
		d     []string
		codes []int
		want  []string
		e     api.Errno
	}{
		{d, nil, nil, api.OK},
		{nil, nil, nil, api.OK},
		{d, []int{3, 0, 3, 2}, []string{"b", "", "b", "ab"}, api.OK},
		{d, []int{4}, nil, api.ErrRange},
		{d, []int{-1}, nil, api.ErrRange},
		{d, []int{0, 1, 4, 2}, nil, api.ErrRange},
		{d, []int{0, math.MinInt}, nil, api.ErrRange},
		{d, []int{math.MaxInt}, nil, api.ErrRange},
		{nil, []int{0}, nil, api.ErrRange},
	} {
		l, e := dictionary.Strings(c.d, c.codes)
		expectStrings(t, fmt.Sprintf("Strings(%q, %v)", c.d, c.codes), l, e, c.want, c.e)
	}
}

// P6.3 and P6.7: strings of codes are the strings, and codes are ordered as they are.
func TestCodesAndStrings(t *testing.T) {
	random := rand.New(rand.NewSource(3))
	for range 300 {
		l := someStrings(random)
		d := different(l)
		codes, e := dictionary.Codes(d, l)
		if e != api.OK || len(codes) != len(l) {
			t.Fatalf("Codes: %d codes, %d", len(codes), e)
		}
		for i := range l {
			if d[codes[i]] != l[i] || (codes[i] < codes[0]) != (l[i] < l[0]) {
				t.Errorf("the code of %q is %d", l[i], codes[i])
			}
		}
		back, e := dictionary.Strings(d, codes)
		expectStrings(t, "Strings", back, e, l, api.OK)
	}
}
