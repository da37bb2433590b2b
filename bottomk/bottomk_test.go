package bottomk_test

import (
	"cmp"
	"fmt"
	"math"
	"math/big"
	"math/rand"
	"slices"
	"strings"
	"testing"

	"sleuth/api"
	"sleuth/bottomk"
	"sleuth/checksum"
)

func expectErr(t *testing.T, what string, got, want api.Errno) {
	t.Helper()
	if got != want {
		t.Errorf("%s: the error %d, want %d", what, got, want)
	}
}

func expectInt(t *testing.T, what string, got, want int) {
	t.Helper()
	if got != want {
		t.Errorf("%s: %d, want %d", what, got, want)
	}
}

func expectNumber(t *testing.T, what string, got int, e api.Errno, want int, wantErr api.Errno) {
	t.Helper()
	if got != want || e != wantErr {
		t.Errorf("%s: %d, %d; want %d, %d", what, got, e, want, wantErr)
	}
}

// expectNil expects no sketch and an error.
func expectNil(t *testing.T, what string, s *bottomk.Sketch, e, want api.Errno) {
	t.Helper()
	if s != nil || e != want {
		t.Errorf("%s: %v, %d; want the error %d", what, s, e, want)
	}
}

// sketch returns the sketch of some keys.
func sketch(t *testing.T, size, seed int, keys ...string) *bottomk.Sketch {
	t.Helper()
	s, e := bottomk.Of(size, seed, keys)
	expectErr(t, "Of", e, api.OK)
	if s == nil {
		t.Fatal("no sketch")
	}
	return s
}

// model is a sketch that keeps its whole set.
type model struct {
	size, seed int
	set        []bottomk.Key
}

func modelOf(size, seed int, keys []string) model {
	m := model{size: size, seed: seed}
	for _, key := range keys {
		m.set = append(m.set, bottomk.Key{Hash: checksum.Text(seed, key), Text: key})
	}
	slices.SortFunc(m.set, func(a, b bottomk.Key) int {
		return cmp.Or(cmp.Compare(a.Hash, b.Hash), strings.Compare(a.Text, b.Text))
	})
	m.set = slices.Compact(m.set)
	return m
}

// kept returns the keys that a sketch of the set keeps.
func (m model) kept() []bottomk.Key { return m.set[:min(m.size, len(m.set))] }

// distinct returns the estimate of the terms.
func (m model) distinct() int {
	if len(m.set) <= m.size {
		return len(m.set)
	}
	h := m.set[m.size-1].Hash
	if h == 0 {
		return m.size
	}
	q := big.NewInt(int64(m.size - 1))
	q.Lsh(q, 62)
	q.Div(q, big.NewInt(int64(h)))
	if q.Cmp(big.NewInt(api.MaxId)) > 0 {
		return api.MaxId
	}
	return max(int(q.Int64()), m.size)
}

// expectSketch expects that a sketch is that of a model's set.
func expectSketch(t *testing.T, what string, s *bottomk.Sketch, m model) {
	t.Helper()
	expectInt(t, what+": Size", s.Size(), m.size)
	expectInt(t, what+": Seed", s.Seed(), m.seed)
	if got := s.Keys(); !slices.Equal(got, m.kept()) {
		t.Errorf("%s: Keys: %v, want %v", what, got, m.kept())
	}
	isExact := len(m.set) <= m.size
	if s.Exact() != isExact {
		t.Errorf("%s: Exact: %v", what, s.Exact())
	}
	expectInt(t, what+": Distinct", s.Distinct(), m.distinct())
	expectInt(t, what+": Least", s.Least(), min(len(m.set), m.size+1))
}

// names returns so many different keys.
func names(size int) []string {
	var l []string
	for n := range size {
		l = append(l, fmt.Sprint("key ", n))
	}
	return l
}

// someKeys returns up to so many keys, some of them twice.
func someKeys(r *rand.Rand, most int) []string {
	var l []string
	for range r.Intn(most + 1) {
		l = append(l, fmt.Sprint("key ", r.Intn(most)))
	}
	return l
}

// P23.1: New and Of.
func TestNew(t *testing.T) {
	for _, c := range []struct {
		size, seed int
		e          api.Errno
	}{
		{1, 0, api.OK}, {1024, 1 << 20, api.OK}, {7, 5, api.OK},
		{0, 0, api.ErrRange}, {-1, 0, api.ErrRange}, {1025, 0, api.ErrRange}, {math.MinInt, 0, api.ErrRange}, {math.MaxInt, 0, api.ErrRange},
		{1, -1, api.ErrRange}, {1, 1<<20 + 1, api.ErrRange}, {1, math.MinInt, api.ErrRange}, {1, math.MaxInt, api.ErrRange}, {0, -1, api.ErrRange},
	} {
		what := fmt.Sprintf("New(%d, %d)", c.size, c.seed)
		s, e := bottomk.New(c.size, c.seed)
		if c.e == api.OK {
			expectErr(t, what, e, api.OK)
			expectSketch(t, what, s, model{size: c.size, seed: c.seed})
			continue
		}
		expectNil(t, what, s, e, c.e)
		s, e = bottomk.Of(c.size, c.seed, []string{"a", "\n"})
		expectNil(t, "Of instead of "+what, s, e, c.e)
	}
	long := strings.Repeat("k", 4097)
	for _, c := range []struct {
		keys []string
		e    api.Errno
	}{{[]string{"a", "\n", long}, api.ErrForm}, {[]string{"a", long, "\n"}, api.ErrLong}} {
		s, e := bottomk.Of(1, 0, c.keys)
		expectNil(t, "Of keys with an error", s, e, c.e)
	}
	expectSketch(t, "Of nothing", sketch(t, 3, 4), model{size: 3, seed: 4})
	expectInt(t, "MaxSize", bottomk.MaxSize, 1024)
	expectInt(t, "Scale", bottomk.Scale, 1<<62)
}

// Examples 1 and 2.
func TestExamples(t *testing.T) {
	for seed := range 20 {
		s := sketch(t, 2, seed, "a", "b", "a")
		expectInt(t, "Distinct", s.Distinct(), 2)
		expectSketch(t, "of a, b and a", s, modelOf(2, seed, []string{"a", "b"}))
		if !s.Exact() {
			t.Error("not exact")
		}
		expectErr(t, "Add", s.Add("c"), api.OK)
		if s.Exact() {
			t.Error("exact")
		}
		expectInt(t, "Least", s.Least(), 3)
		expectSketch(t, "behind c", s, modelOf(2, seed, []string{"a", "b", "c"}))
		for n := 1; n <= 40; n++ {
			expectInt(t, "Distinct with the size 1", sketch(t, 1, seed, names(n)...).Distinct(), 1)
		}
	}
}

// P23.2: which keys can be added.
func TestAdd(t *testing.T) {
	const long = 4096
	s := sketch(t, 9, 2, "a")
	for _, c := range []struct {
		key string
		e   api.Errno
	}{
		{strings.Repeat("k", long+1), api.ErrLong},
		{strings.Repeat("\n", long+1), api.ErrLong},
		{"\x1f", api.ErrForm},
		{"a\x7f", api.ErrForm},
		{"a\x00b", api.ErrForm},
		{"\xff", api.ErrForm},
		{strings.Repeat("k", long-1) + "\n", api.ErrForm},
	} {
		expectErr(t, fmt.Sprintf("Add of %.10q", c.key), s.Add(c.key), c.e)
		expectSketch(t, "behind an error", s, modelOf(9, 2, []string{"a"}))
	}
	keys := []string{"", " ", "~", "a b", "\"\\", strings.Repeat("k", long)}
	for _, key := range keys {
		expectErr(t, fmt.Sprintf("Add of %.10q", key), s.Add(key), api.OK)
	}
	expectSketch(t, "behind keys", s, modelOf(9, 2, append(keys, "a")))
}

// P23.2 and P23.4: a key that was added before, and one more than there are places for.
func TestExact(t *testing.T) {
	for _, size := range []int{1, 2, 5, 1024} {
		keys := names(size)
		s := sketch(t, size, 7, keys...)
		expectSketch(t, "a full sketch", s, modelOf(size, 7, keys))
		for _, key := range keys {
			expectErr(t, "Add", s.Add(key), api.OK)
		}
		expectSketch(t, "a full sketch with repetitions", s, modelOf(size, 7, keys))
		all := names(size + 1)
		for _, key := range all[:min(len(all), 20)] {
			less := slices.DeleteFunc(slices.Clone(all), func(k string) bool { return k == key })
			s := sketch(t, size, 7, less...)
			expectErr(t, "Add", s.Add(key), api.OK)
			expectSketch(t, "one key more", s, modelOf(size, 7, all))
			for _, k := range all {
				expectErr(t, "Add", s.Add(k), api.OK)
			}
			expectSketch(t, "one key more, and repetitions", s, modelOf(size, 7, all))
		}
	}
}

// P23.3: sketches of parts merge into that of the whole.
func TestMerge(t *testing.T) {
	for _, c := range []struct {
		size    int
		a, b    []string
		isExact bool
	}{
		{3, nil, nil, true},
		{3, []string{"a"}, nil, true},
		{3, []string{"a", "b"}, []string{"b", "c"}, true},
		{3, []string{"a", "b", "c"}, []string{"a", "b", "c"}, true},
		{3, []string{"a", "b"}, []string{"c", "d"}, false},
		{3, []string{"a", "b", "c"}, []string{"d"}, false},
		{3, []string{"a", "b", "c", "d"}, nil, false},
		{3, []string{"a", "b", "c", "d"}, []string{"a"}, false},
		{1, []string{"a"}, []string{"b"}, false},
		{1, []string{"a"}, []string{"a"}, true},
	} {
		for _, l := range [][2][]string{{c.a, c.b}, {c.b, c.a}} {
			what := fmt.Sprintf("Merge of %q and %q", l[0], l[1])
			a, b := sketch(t, c.size, 6, l[0]...), sketch(t, c.size, 6, l[1]...)
			expectErr(t, what, a.Merge(b), api.OK)
			expectSketch(t, what, a, modelOf(c.size, 6, slices.Concat(c.a, c.b)))
			expectSketch(t, "the argument of "+what, b, modelOf(c.size, 6, l[1]))
			if a.Exact() != c.isExact {
				t.Errorf("%s: Exact: %v", what, a.Exact())
			}
			expectErr(t, "Merge with itself", a.Merge(a), api.OK)
			expectSketch(t, "Merge with itself", a, modelOf(c.size, 6, slices.Concat(c.a, c.b)))
		}
	}
}

// P23.3 and P23.6: the errors in their order.
func TestMergeErrors(t *testing.T) {
	var none *bottomk.Sketch
	s := sketch(t, 3, 6, "a", "b")
	for _, c := range []struct {
		a, b *bottomk.Sketch
		e    api.Errno
	}{
		{none, none, api.ErrArgument},
		{none, s, api.ErrArgument},
		{s, none, api.ErrArgument},
		{s, sketch(t, 4, 6, "c"), api.ErrConflict},
		{s, sketch(t, 3, 7, "c"), api.ErrConflict},
		{s, sketch(t, 2, 5), api.ErrConflict},
		{sketch(t, 4, 6), sketch(t, 3, 6), api.ErrConflict},
	} {
		want := c.a.Clone()
		expectErr(t, "Merge", c.a.Merge(c.b), c.e)
		if !c.a.Equal(want) {
			t.Error("Merge with an error has changed the sketch")
		}
		n, e := bottomk.Union(c.a, c.b)
		expectNumber(t, "Union", n, e, 0, c.e)
		n, e = bottomk.Overlap(c.a, c.b)
		expectNumber(t, "Overlap", n, e, 0, c.e)
	}
	expectSketch(t, "behind errors", s, modelOf(3, 6, []string{"a", "b"}))
}

// The methods of a nil sketch.
func TestNil(t *testing.T) {
	var none *bottomk.Sketch
	for _, key := range []string{"a", "\n", strings.Repeat("k", 4097)} {
		expectErr(t, "Add", none.Add(key), api.ErrArgument)
	}
	for what, n := range map[string]int{"Size": none.Size(), "Seed": none.Seed(), "Keys": len(none.Keys()), "Distinct": none.Distinct(), "Least": none.Least(), "Encode": len(none.Encode())} {
		expectInt(t, what, n, 0)
	}
	if none.Exact() || none.Clone() != nil {
		t.Error("nil is exact, or has a clone")
	}
	s := sketch(t, 1, 0)
	if !none.Equal(nil) || none.Equal(s) || s.Equal(none) {
		t.Error("nil is not equal to nil only")
	}
}

// A sketch that New has not made keeps nothing, and does no harm.
func TestUnmadeSketch(t *testing.T) {
	var s bottomk.Sketch
	for range 2 {
		expectErr(t, "Add", s.Add("a"), api.OK)
		expectErr(t, "Merge", s.Merge(&s), api.OK)
		expectInt(t, "Keys", len(s.Keys()), 0)
		expectInt(t, "Distinct", s.Distinct(), 0)
		n, e := bottomk.Union(&s, s.Clone())
		expectNumber(t, "Union", n, e, 0, api.OK)
		n, e = bottomk.Overlap(&s, s.Clone())
		expectNumber(t, "Overlap", n, e, 0, api.OK)
		made, e := bottomk.Decode(s.Encode())
		expectNil(t, "Decode", made, e, api.ErrRange)
		expectErr(t, "Merge with another size", s.Merge(sketch(t, 1, 0)), api.ErrConflict)
	}
}

// P23.8, and results that are independent.
func TestClone(t *testing.T) {
	for _, keys := range [][]string{nil, {"a"}, {"a", "b", "c"}, {"a", "b", "c", "d", "e"}} {
		s := sketch(t, 3, 6, keys...)
		clone := s.Clone()
		expectSketch(t, "Clone", clone, modelOf(3, 6, keys))
		for k, key := range names(30) {
			one, other := s, clone
			if k%2 == 1 {
				one, other = clone, s
			}
			before := other.Encode()
			expectErr(t, "Add", one.Add(key), api.OK)
			clear(one.Keys())
			if other.Encode() != before {
				t.Fatal("a sketch has changed with its clone")
			}
		}
		clone = s.Clone()
		before := clone.Encode()
		expectErr(t, "Merge", s.Merge(sketch(t, 3, 6, names(90)...)), api.OK)
		if clone.Encode() != before {
			t.Error("Merge changes a clone")
		}
	}
}

// P23.8.
func TestEqual(t *testing.T) {
	// Of the keys a and b, the first one in order is the only one that is kept.
	first := modelOf(1, 6, []string{"a", "b"}).set[0].Text
	l := []*bottomk.Sketch{
		sketch(t, 1, 6), sketch(t, 2, 6), sketch(t, 1, 5), sketch(t, 1, 6, first), sketch(t, 1, 6, "a", "b"), sketch(t, 2, 6, first), sketch(t, 2, 6, "a", "b"), sketch(t, 2, 6, "a", "c"), sketch(t, 2, 5, "a", "b"),
	}
	for i, a := range l {
		for j, b := range l {
			if a.Equal(b) != (i == j) || a.Equal(b.Clone()) != (i == j) {
				t.Errorf("Equal of %d and %d is not %v", i, j, i == j)
			}
		}
	}
	a, b := sketch(t, 2, 6, "a", "b", "c"), sketch(t, 2, 6, "c", "b", "a", "b")
	if !a.Equal(b) {
		t.Error("equal sketches are not equal")
	}
}

// overlap returns what Overlap should return of two sets.
func overlap(a, b, whole model) int {
	common := 0
	for _, k := range whole.kept() {
		if slices.Contains(a.kept(), k) && slices.Contains(b.kept(), k) {
			common++
		}
	}
	if common == 0 {
		return 0
	}
	return 1000000 * common / len(whole.kept())
}

// P23.6: unions and overlaps of few keys.
func TestOverlap(t *testing.T) {
	for _, c := range []struct {
		size           int
		a, b           []string
		union, overlap int
	}{
		{9, nil, nil, 0, 0},
		{9, []string{"a"}, nil, 1, 0},
		{9, []string{"a"}, []string{"a"}, 1, 1000000},
		{9, []string{"a"}, []string{"b"}, 2, 0},
		{9, []string{"a", "b"}, []string{"b", "c"}, 3, 333333},
		{9, []string{"a", "b", "c"}, []string{"b", "c"}, 3, 666666},
		{9, []string{"a", "b", "c", "d"}, []string{"b"}, 4, 250000},
		{1, []string{"a"}, []string{"a"}, 1, 1000000},
	} {
		for _, l := range [][2][]string{{c.a, c.b}, {c.b, c.a}} {
			a, b := sketch(t, c.size, 6, l[0]...), sketch(t, c.size, 6, l[1]...)
			n, e := bottomk.Union(a, b)
			expectNumber(t, fmt.Sprintf("Union of %q and %q", l[0], l[1]), n, e, c.union, api.OK)
			n, e = bottomk.Overlap(a, b)
			expectNumber(t, fmt.Sprintf("Overlap of %q and %q", l[0], l[1]), n, e, c.overlap, api.OK)
		}
	}
}

// P23.3 to P23.6, P23.8, P23.9 and P8: sketches of parts, merged in any order, are that of the whole, which is that of the terms.
func TestModels(t *testing.T) {
	r := rand.New(rand.NewSource(1))
	for range 2000 {
		size, seed := 1+r.Intn(1+r.Intn(30)), r.Intn(1<<20+1)
		keys, more := someKeys(r, 1+r.Intn(50)), someKeys(r, 1+r.Intn(50))
		a, b := merged(t, r, size, seed, keys), merged(t, r, size, seed, more)
		x, y, whole := modelOf(size, seed, keys), modelOf(size, seed, more), modelOf(size, seed, slices.Concat(keys, more))
		expectSketch(t, "a", a, x)
		n, e := bottomk.Union(a, b)
		expectNumber(t, "Union", n, e, whole.distinct(), api.OK)
		n, e = bottomk.Overlap(a, b)
		expectNumber(t, "Overlap", n, e, overlap(x, y, whole), api.OK)
		n, e = bottomk.Overlap(a, a)
		expectNumber(t, "Overlap with itself", n, e, overlap(x, x, x), api.OK)
		expectSketch(t, "a behind Union and Overlap", a, x)
		expectSketch(t, "b behind Union and Overlap", b, y)
		both := a.Clone()
		expectErr(t, "Merge", both.Merge(b), api.OK)
		expectSketch(t, "Merge", both, whole)
		expectSubset(t, a, keys, both)
		expectSubset(t, b, more, both)
		if !both.Equal(sketch(t, size, seed, slices.Concat(more, keys)...)) {
			t.Error("the sketch of the whole is another one")
		}
		if len(keys) > 0 && overlap(x, x, x) != 1000000 {
			t.Error("the overlap with itself is not 1000000")
		}
	}
}

// merged returns a sketch of keys that is merged from those of parts of them, in random order.
func merged(t *testing.T, r *rand.Rand, size, seed int, keys []string) *bottomk.Sketch {
	t.Helper()
	l := slices.Clone(keys)
	r.Shuffle(len(l), func(i, j int) { l[i], l[j] = l[j], l[i] })
	if len(l) < 2 || r.Intn(2) == 0 {
		return sketch(t, size, seed, l...)
	}
	k := r.Intn(len(l))
	s := merged(t, r, size, seed, l[:k])
	expectErr(t, "Merge", s.Merge(merged(t, r, size, seed, append(l[k:], l[0]))), api.OK)
	return s
}

// expectSubset expects that the sketch of some keys keeps each of them that the sketch of a larger set keeps.
func expectSubset(t *testing.T, part *bottomk.Sketch, keys []string, whole *bottomk.Sketch) {
	t.Helper()
	kept := part.Keys()
	for _, k := range whole.Keys() {
		if slices.Contains(keys, k.Text) && !slices.Contains(kept, k) {
			t.Errorf("%v is kept of the whole, but not of a part", k)
		}
	}
}

// Arguments are neither modified nor retained.
func TestArgumentsStay(t *testing.T) {
	keys := []string{"c", "a", "b", "a", "d"}
	s := sketch(t, 3, 6, keys...)
	if !slices.Equal(keys, []string{"c", "a", "b", "a", "d"}) {
		t.Errorf("the keys have changed: %q", keys)
	}
	for k := range keys {
		keys[k] = "changed"
	}
	expectSketch(t, "Of", s, modelOf(3, 6, []string{"a", "b", "c", "d"}))
	for k, x := range s.Keys() {
		l := s.Keys()
		l[k].Text += "!"
		_ = append(l[:k], bottomk.Key{})
		if got := s.Keys()[k]; got != x {
			t.Errorf("the key %v became %v", x, got)
		}
	}
}

// P23.5: estimates of large sets are near the truth, and those of the terms.
func TestLargeSets(t *testing.T) {
	for _, c := range []struct{ size, keys int }{{1024, 1023}, {1024, 1024}, {1024, 1025}, {1024, 50000}, {100, 50000}, {2, 1000}} {
		keys := names(c.keys)
		s := sketch(t, c.size, 1<<20, keys...)
		expectSketch(t, fmt.Sprint(c), s, modelOf(c.size, 1<<20, keys))
		if got := s.Distinct(); c.size > 2 && (got < c.keys*3/4 || got > c.keys*4/3) {
			t.Errorf("%d keys are estimated as %d", c.keys, got)
		}
	}
}
