package dictionary_test

import (
	"fmt"
	"math"
	"math/rand"
	"slices"
	"testing"

	"sleuth/api"
	"sleuth/dictionary"
)

// remapOf computes a remap by the words of the document.
func remapOf(old, d []string) []int {
	var from []int
	for _, s := range old {
		from = append(from, slices.Index(d, s))
	}
	return from
}

func expectMerged(t *testing.T, a, b []string) {
	t.Helper()
	want := different(a, b)
	d, fromA, fromB, e := dictionary.Merge(a, b)
	expectStrings(t, "Merge", d, e, want, api.OK)
	expectInts(t, "Merge, first remap", fromA, e, remapOf(a, want), api.OK)
	expectInts(t, "Merge, second remap", fromB, e, remapOf(b, want), api.OK)
}

// P6.4 and P6.7: merging in the other order, or with the dictionary itself, gives the same dictionary.
func TestMerge(t *testing.T) {
	expectMerged(t, nil, nil)
	expectMerged(t, []string{""}, nil)
	expectMerged(t, nil, []string{""})
	expectMerged(t, []string{x(longest)}, []string{"", x(longest)})
	random := rand.New(rand.NewSource(4))
	for range 500 {
		a, b := different(someStrings(random)), different(someStrings(random))
		givenA, givenB := slices.Clone(a), slices.Clone(b)
		expectMerged(t, a, b)
		expectMerged(t, b, a)
		expectMerged(t, a, a)
		if !slices.Equal(a, givenA) || !slices.Equal(b, givenB) {
			t.Fatal("an argument of Merge was modified")
		}
	}
}

// P6.4: the number of strings is limited.
func TestMergeLimit(t *testing.T) {
	full := numbered(0, most)
	expectMerged(t, full, nil)
	expectMerged(t, full, full)
	expectMerged(t, full, full[100:200])
	expectMerged(t, numbered(0, most/2), numbered(most/2, most/2))
	for _, c := range [][2][]string{
		{full, {"other"}},
		{{"other"}, full},
		{full, numbered(1, most)},
		{full, numbered(most, most)},
	} {
		d, fromA, fromB, e := dictionary.Merge(c[0], c[1])
		expectStrings(t, "Merge", d, e, nil, api.ErrLimit)
		expectInts(t, "Merge, first remap", fromA, e, nil, api.ErrLimit)
		expectInts(t, "Merge, second remap", fromB, e, nil, api.ErrLimit)
	}
}

// P6.4.
func TestKeep(t *testing.T) {
	d := []string{"a", "b", "c"}
	for _, c := range []struct {
		d    []string
		used []int
		kept []string
		from []int
		e    api.Errno
	}{
		{nil, nil, nil, nil, api.OK},
		{d, nil, nil, []int{-1, -1, -1}, api.OK},
		{d, []int{1}, []string{"b"}, []int{-1, 0, -1}, api.OK},
		{d, []int{1, 2, 0}, d, []int{0, 1, 2}, api.OK},
		{d, []int{2, 2, 2, 1, 1}, []string{"b", "c"}, []int{-1, 0, 1}, api.OK},
		{d, []int{3}, nil, nil, api.ErrRange},
		{d, []int{-1}, nil, nil, api.ErrRange},
		{d, []int{0, 1, 2, 3}, nil, nil, api.ErrRange},
		{d, []int{math.MinInt, 0}, nil, nil, api.ErrRange},
		{d, []int{0, math.MaxInt}, nil, nil, api.ErrRange},
		{nil, []int{0}, nil, nil, api.ErrRange},
	} {
		kept, from, e := dictionary.Keep(c.d, c.used)
		expectStrings(t, fmt.Sprintf("Keep(%q, %v)", c.d, c.used), kept, e, c.kept, c.e)
		expectInts(t, fmt.Sprintf("Keep(%q, %v), remap", c.d, c.used), from, e, c.from, c.e)
	}
	if !slices.Equal(d, []string{"a", "b", "c"}) {
		t.Error("the argument of Keep was modified")
	}
}

// P6.5.
func TestRemap(t *testing.T) {
	for _, c := range []struct {
		codes, from, want []int
		e                 api.Errno
	}{
		{nil, nil, nil, api.OK},
		{nil, []int{-1}, nil, api.OK},
		{[]int{0, 1, 2, 1, 0}, []int{5, 0, 9}, []int{5, 0, 9, 0, 5}, api.OK},
		{[]int{0}, []int{math.MaxInt}, []int{math.MaxInt}, api.OK},
		{[]int{0}, nil, nil, api.ErrRange},
		{[]int{1}, []int{0}, nil, api.ErrRange},
		{[]int{-1}, []int{0}, nil, api.ErrRange},
		{[]int{0, 0, math.MaxInt}, []int{0}, nil, api.ErrRange},
		{[]int{0, math.MinInt}, []int{0}, nil, api.ErrRange},
		{[]int{0, 1}, []int{0, -1}, nil, api.ErrNotFound},
		{[]int{1, 0}, []int{0, -7}, nil, api.ErrNotFound},
		{[]int{0}, []int{math.MinInt}, nil, api.ErrNotFound},
		{[]int{0, 1, 2}, []int{0, -1}, nil, api.ErrNotFound},
		{[]int{0, 2, 1}, []int{0, -1}, nil, api.ErrRange},
	} {
		given, from := slices.Clone(c.codes), slices.Clone(c.from)
		codes, e := dictionary.Remap(c.codes, c.from)
		expectInts(t, fmt.Sprintf("Remap(%v, %v)", c.codes, c.from), codes, e, c.want, c.e)
		if !slices.Equal(c.codes, given) || !slices.Equal(c.from, from) {
			t.Error("an argument of Remap was modified")
		}
	}
}

// P6.7: remapped codes are codes of the same strings.
func TestRemappedCodes(t *testing.T) {
	random := rand.New(rand.NewSource(5))
	expect := func(d []string, codes, from []int, want []string) {
		t.Helper()
		remapped, e := dictionary.Remap(codes, from)
		if e != api.OK {
			t.Fatalf("Remap: %d", e)
		}
		l, e := dictionary.Strings(d, remapped)
		expectStrings(t, "Strings of remapped codes", l, e, want, api.OK)
	}
	for range 300 {
		a, b := someStrings(random), someStrings(random)
		dA, dB := different(a), different(b)
		codesA, _ := dictionary.Codes(dA, a)
		codesB, _ := dictionary.Codes(dB, b)
		d, fromA, fromB, _ := dictionary.Merge(dA, dB)
		expect(d, codesA, fromA, a)
		expect(d, codesB, fromB, b)
		used := a[:len(a)/2]
		kept, from, e := dictionary.Keep(dA, codesA[:len(a)/2])
		expectStrings(t, "Keep", kept, e, different(used), api.OK)
		expectInts(t, "Keep, remap", from, e, remapOf(dA, kept), api.OK)
		expect(kept, codesA[:len(a)/2], from, used)
		if len(kept) < len(dA) {
			_, e := dictionary.Remap([]int{slices.Index(from, -1)}, from)
			expectInts(t, "Remap of a code that is not kept", nil, e, nil, api.ErrNotFound)
		}
	}
}

// The rule that results are newly allocated.
func TestResultsAreIndependent(t *testing.T) {
	d := []string{"a", "b"}
	merged, fromA, fromB, _ := dictionary.Merge(d, d)
	fromA[0], merged[1] = 9, "other"
	if fromB[0] != 0 || d[1] != "b" {
		t.Error("the results of Merge share memory")
	}
	kept, from, _ := dictionary.Keep(d, []int{0, 1})
	kept[0], from[0] = "other", 9
	built, _ := dictionary.Build(d)
	built[0] = "other"
	l, _ := dictionary.Strings(d, []int{0, 1})
	l[0] = "other"
	if !slices.Equal(d, []string{"a", "b"}) {
		t.Error("a result shares memory with an argument")
	}
	identity := []int{0, 1}
	codes, _ := dictionary.Remap(identity, identity)
	codes[0] = 9
	if identity[0] != 0 {
		t.Error("the result of Remap shares memory with an argument")
	}
}

// P1: lists that are no dictionaries do no harm, and together with an error there are zero values.
func TestGarbage(t *testing.T) {
	random := rand.New(rand.NewSource(6))
	numbers := []int{0, 1, 2, 5, 20, -1, -2, most, math.MinInt, math.MaxInt}
	for range 3000 {
		d, l := someStrings(random), someStrings(random)
		if random.Intn(5) == 0 {
			d = append(d, x(longest+1), x(300), "a")
		}
		var codes, from []int
		for range random.Intn(4) {
			codes = append(codes, numbers[random.Intn(len(numbers))])
			from = append(from, numbers[random.Intn(len(numbers))])
		}
		s := append(l, "")[0]
		if code, isFound := dictionary.Find(d, s); !isFound && code != 0 {
			t.Errorf("Find: %d and false", code)
		}
		dictionary.Lower(d, s)
		dictionary.Prefix(d, s)
		dictionary.Size(d)
		found, e1 := dictionary.Codes(d, l)
		strs, e2 := dictionary.Strings(d, codes)
		merged, fromA, fromB, e3 := dictionary.Merge(d, l)
		kept, fromD, e4 := dictionary.Keep(d, codes)
		remapped, e5 := dictionary.Remap(codes, from)
		form, e6 := dictionary.Encode(d)
		for i, wrong := range []bool{
			e1 != api.OK && found != nil,
			e2 != api.OK && strs != nil,
			e3 != api.OK && (merged != nil || fromA != nil || fromB != nil),
			e4 != api.OK && (kept != nil || fromD != nil),
			e5 != api.OK && remapped != nil,
			e6 != api.OK && form != "",
			e6 != dictionary.Check(d),
		} {
			if wrong {
				t.Errorf("case %d: a result together with an error", i)
			}
		}
	}
}
