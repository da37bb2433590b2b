package bottomk_test

import (
	"fmt"
	"math"
	"math/rand"
	"slices"
	"strings"
	"testing"

	"sleuth/api"
	"sleuth/bottomk"
	"sleuth/encoding"
)

// form returns the form of numbers, bools and strings, one after another.
func form(l ...any) string {
	var w encoding.Writer
	for _, x := range l {
		switch x := x.(type) {
		case int:
			w.Number(x)
		case bool:
			w.Bool(x)
		case string:
			w.Text(x)
		}
	}
	return w.Bytes()
}

// ordered returns keys in the order of their hashes for a seed.
func ordered(seed int, keys ...string) []any {
	var l []any
	for _, k := range modelOf(1, seed, keys).set {
		l = append(l, k.Text)
	}
	return l
}

// P23.7: the forms of sketches, which are read again.
func TestForms(t *testing.T) {
	three := ordered(6, "a", "b", "c")
	for _, c := range []struct {
		size, seed int
		keys       []string
		want       string
	}{
		{3, 6, nil, "\x81\x03\x81\x06\x81\x01\x80"},
		{1, 0, nil, "\x81\x01\x80\x81\x01\x80"},
		{1024, 1 << 20, []string{"a"}, "\x82\x04\x00\x83\x10\x00\x00\x81\x01\x81\x01\x81\x01a"},
		{1, 6, []string{""}, "\x81\x01\x81\x06\x81\x01\x81\x01\x80"},
		{3, 6, []string{"a", "b", "c"}, form(append([]any{3, 6, true, 3}, three...)...)},
		{4, 6, []string{"a", "b", "c"}, form(append([]any{4, 6, true, 3}, three...)...)},
		{2, 6, []string{"a", "b", "c"}, form(append([]any{2, 6, false, 2}, three[:2]...)...)},
		{1, 6, []string{"a", "b", "c"}, form(1, 6, false, 1, three[0])},
		{1, 6, []string{strings.Repeat("~", 4096)}, form(1, 6, true, 1, strings.Repeat("~", 4096))},
		{1024, 5, names(2000), ""},
		{1024, 5, names(1024), ""},
	} {
		s := sketch(t, c.size, c.seed, c.keys...)
		got := s.Encode()
		if got != c.want && c.want != "" {
			t.Errorf("Encode: %q, want %q", got, c.want)
		}
		read, e := bottomk.Decode(got)
		expectErr(t, "Decode", e, api.OK)
		expectSketch(t, "Decode", read, modelOf(c.size, c.seed, c.keys))
		if !s.Equal(read) || read.Encode() != got {
			t.Errorf("Decode of %q is another sketch", got)
		}
	}
}

// P23.7: the errors in their order.
func TestDecodeErrors(t *testing.T) {
	three := ordered(6, "a", "b", "c")
	x, y, z := three[0], three[1], three[2]
	long := strings.Repeat("k", 4097)
	for _, c := range []struct {
		form string
		e    api.Errno
	}{
		{"", api.ErrTruncated},
		{form(3), api.ErrTruncated},
		{form(3, 6), api.ErrTruncated},
		{form(3, 6, true), api.ErrTruncated},
		{form(3, 6, true, 1), api.ErrTruncated},
		{form(3, 6, true, 2, "a"), api.ErrTruncated},
		{form(3, 6, true, 0) + "\x80", api.ErrForm},
		{"\x81\x00", api.ErrForm},
		{form(3) + "\x81\x00", api.ErrForm},
		{form(3, 6, 2, 0), api.ErrForm},
		{form(3, 6, -1, 0), api.ErrForm},
		{form(3, 6, true, -1), api.ErrForm},
		{form(3, 6, true, 1025), api.ErrLimit},
		{form(1024, 6, true, 1025) + strings.Repeat("\x80", 1025), api.ErrLimit},
		{form(3, 6, true, 1024) + strings.Repeat("\x80", 1023), api.ErrTruncated},
		{form(3, 6, true, 1, long), api.ErrLong},
		{form(3, 6, true, 1, "a") + "x", api.ErrForm},
		{form(0, 6, true, 0), api.ErrRange},
		{form(1025, 6, true, 0), api.ErrRange},
		{form(-1, 6, true, 0), api.ErrRange},
		{form(math.MinInt, math.MaxInt, true, 0), api.ErrRange},
		{form(3, -1, true, 0), api.ErrRange},
		{form(3, 1<<20+1, true, 0), api.ErrRange},
		{form(3, 6, true, 1, "\n"), api.ErrForm},
		{form(3, 6, true, 2, y, x), api.ErrOrder},
		{form(3, 6, true, 2, x, x), api.ErrOrder},
		{form(3, 6, true, 3, x, z, y), api.ErrOrder},
		{form(3, 6, false, 3, z, y, x), api.ErrOrder},
		{form(2, 6, true, 3, x, y, z), api.ErrForm},
		{form(2, 6, false, 3, x, y, z), api.ErrForm},
		{form(4, 6, false, 3, x, y, z), api.ErrForm},
		{form(1, 6, false, 0), api.ErrForm},
		// The errors in their order.
		{form(0, 6, true, 1), api.ErrTruncated},
		{form(0, 6, 2), api.ErrForm},
		{form(0, -1, true, 0) + "\x80", api.ErrForm},
		{form(0, 6, true, 2, "\n", long), api.ErrLong},
		{form(0, 6, true, 1, "\n"), api.ErrRange},
		{form(3, -1, true, 2, y, x), api.ErrRange},
		{form(3, 6, true, 2, "\n", long), api.ErrLong},
		{form(3, 6, true, 3, y, x, "\n"), api.ErrForm},
		{form(3, 6, true, 3, y, x, "\n") + "x", api.ErrForm},
		{form(1, 6, true, 2, y, x), api.ErrOrder},
		{form(3, 6, false, 2, y, x), api.ErrOrder},
		{form(2, 6, true, 3, x, y, y), api.ErrOrder},
	} {
		s, e := bottomk.Decode(c.form)
		expectNil(t, fmt.Sprintf("Decode of %.80q", c.form), s, e, c.e)
	}
	for _, good := range []string{form(3, 6, true, 3, x, y, z), form(3, 6, false, 3, x, y, z), form(4, 6, true, 3, x, y, z), form(3, 6, true, 2, x, z)} {
		s, e := bottomk.Decode(good)
		expectErr(t, "Decode", e, api.OK)
		if s.Encode() != good {
			t.Errorf("Decode of %q: %q", good, s.Encode())
		}
	}
}

// P23.7: what is decoded has the string as its form, and a sketch goes on from its form as from itself.
func TestDamagedForms(t *testing.T) {
	r := rand.New(rand.NewSource(4))
	for range 300 {
		size, seed, keys := 1+r.Intn(9), r.Intn(9), someKeys(r, 12)
		s := sketch(t, size, seed, keys...)
		whole := s.Encode()
		for k := range whole {
			if made, e := bottomk.Decode(whole[:k]); made != nil || e != api.ErrTruncated {
				t.Errorf("Decode of the beginning %q: %d", whole[:k], e)
			}
			b := []byte(whole)
			b[k] = byte(r.Intn(256))
			if made, e := bottomk.Decode(string(b)); e == api.OK && made.Encode() != string(b) || e != api.OK && made != nil {
				t.Errorf("Decode of %q: %d", b, e)
			}
		}
		read, e := bottomk.Decode(whole)
		expectErr(t, "Decode", e, api.OK)
		more := someKeys(r, 12)
		for _, key := range more {
			expectErr(t, "Add", read.Add(key), api.OK)
		}
		expectSketch(t, "a sketch that was read", read, modelOf(size, seed, slices.Concat(keys, more)))
	}
}
