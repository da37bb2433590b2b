package bottomk_test

import (
	"fmt"
	"math/rand"
	"slices"
	"testing"

	"sleuth/api"
	"sleuth/bottomk"
	"sleuth/checksum"
)

// rare is a seed for which keys with rare hashes are known.
const rare = 3

// zeros returns all known keys with the hash 0, in order, and ones those with the hash 1.
func zeros() []string {
	return []string{"fychxsmgfqftvr", "mcakbapjfdvhwq", "mnlekybjcieezp", "oqbairerpiiszc"}
}

func ones() []string {
	return []string{"cmheaqrvldfthr", "oajdwccisbwtau", "udinendearxtvn", "uooaocsqmnyqpp", "waohkbzmpuvkdz", "yiwlzklvvfxutw", "ylgkdipybgaamo"}
}

// Keys with the hashes 2^22 - 1, 2^22 and 2^22 + 1. Divided by them, 2^62 is more than, exactly, and less than api.MaxId.
func below() []string { return []string{"bjgbrprqcdvlhv", "ceglmpmgazfxgo"} }

func exactly() []string { return []string{"cdplebpcoubigg", "jqikkecxwklwyh"} }

func above() []string { return []string{"bxhbzgnnjwnqmb", "cdhhyvtysbwxej"} }

// The keys have the hashes for which they are here.
func TestRareKeys(t *testing.T) {
	for hash, keys := range map[int][]string{0: zeros(), 1: ones(), 1<<22 - 1: below(), 1 << 22: exactly(), 1<<22 + 1: above()} {
		for _, key := range keys {
			expectInt(t, "the hash of "+key, checksum.Text(rare, key), hash)
		}
	}
}

// P23.4: keys with the same hash are ordered bytewise, and all of them count.
func TestEqualHashes(t *testing.T) {
	r := rand.New(rand.NewSource(5))
	all := slices.Concat(zeros(), ones())
	for size := 1; size <= len(all)+1; size++ {
		for range 20 {
			keys := slices.Clone(all)
			r.Shuffle(len(keys), func(i, j int) { keys[i], keys[j] = keys[j], keys[i] })
			s := sketch(t, size, rare, keys...)
			expectSketch(t, fmt.Sprint("the size ", size), s, modelOf(size, rare, all))
			for k, key := range s.Keys() {
				if key.Text != all[k] {
					t.Errorf("the key %d is %s", k, key.Text)
				}
			}
			k := r.Intn(len(keys))
			a, b := sketch(t, size, rare, keys[:k]...), sketch(t, size, rare, keys[k:]...)
			expectErr(t, "Merge", a.Merge(b), api.OK)
			expectSketch(t, "Merge", a, modelOf(size, rare, all))
			if read, e := bottomk.Decode(a.Encode()); e != api.OK || !read.Equal(s) {
				t.Errorf("Decode: %d", e)
			}
		}
	}
	made, e := bottomk.Decode(form(3, rare, true, 2, all[1], all[0]))
	expectNil(t, "Decode", made, e, api.ErrOrder)
	n, e := bottomk.Overlap(sketch(t, 9, rare, all[0], all[1]), sketch(t, 9, rare, all[2], all[1]))
	expectNumber(t, "Overlap", n, e, 333333, api.OK)
}

// P23.5: estimates with the hash 0, and those at and above api.MaxId.
func TestGreatestEstimates(t *testing.T) {
	for _, c := range []struct {
		size, want int
		keys       []string
	}{
		{1, 1, append(names(5), zeros()[0])},
		{1, 1, zeros()},
		{3, 3, zeros()},
		{4, 4, append(names(9), zeros()...)},
		{1, 1, ones()},
		{2, api.MaxId, append(zeros()[:1], ones()...)},
		{3, api.MaxId, append(zeros()[:2], ones()...)},
		{4, api.MaxId, append(zeros()[:3], ones()...)},
		{5, api.MaxId, append(zeros(), ones()...)},
		{6, api.MaxId, append(zeros(), ones()...)},
		{7, api.MaxId, append(zeros(), ones()...)},
		{9, api.MaxId, append(zeros(), ones()...)},
		{10, api.MaxId, append(zeros(), ones()...)},
		{11, 11, append(zeros(), ones()...)},
		{2, api.MaxId, append(below(), "a")},
		{2, api.MaxId, append(exactly(), "a")},
		{2, api.MaxId - 1<<18, append(above(), "a")},
		{3, api.MaxId, append(zeros()[:2], below()...)},
		{3, api.MaxId, append(zeros()[:2], above()...)},
		{2, 2, below()},
	} {
		s := sketch(t, c.size, rare, c.keys...)
		expectInt(t, fmt.Sprintf("Distinct with the size %d of %q", c.size, c.keys), s.Distinct(), c.want)
		expectSketch(t, "greatest estimates", s, modelOf(c.size, rare, c.keys))
		n, e := bottomk.Union(s, sketch(t, c.size, rare))
		expectNumber(t, "Union", n, e, c.want, api.OK)
	}
}
