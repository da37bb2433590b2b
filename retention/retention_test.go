package retention_test

import (
	"fmt"
	"math"
	"testing"

	"sleuth/api"
	"sleuth/retention"
	"sleuth/sampling"
)

// is is the predicate that a bool is true.
func is(field string) api.Pred {
	return api.Pred{Op: api.PredEqual, Field: field, Value: api.Value{Kind: api.KindBool, Int: 1}}
}

// both is the conjunction of predicates.
func both(l ...api.Pred) api.Pred { return api.Pred{Op: api.PredAnd, Args: l} }

// ages returns a policy that keeps every trace until it is removed.
func ages(full, sampled int) retention.Policy {
	return retention.Policy{Full: full, Sampled: sampled}
}

// with returns a policy that samples with a seed, a default exponent and rules.
func with(full, sampled, seed, usual int, rules ...sampling.Rule) retention.Policy {
	return retention.Policy{Full: full, Sampled: sampled, Seed: seed, Sampling: sampling.Policy{Rules: rules, Default: usual}}
}

func expectErr(t *testing.T, what string, got, want api.Errno) {
	t.Helper()
	if got != want {
		t.Errorf("%s: the error %d, want %d", what, got, want)
	}
}

// P33.1: valid policies, and the errors of others in their order.
func TestCheck(t *testing.T) {
	wrong := sampling.Rule{Where: api.Pred{Op: 99}}
	for _, c := range []struct {
		p retention.Policy
		e api.Errno
	}{
		{retention.Policy{}, api.OK},
		{ages(1, 2), api.OK},
		{ages(2, 2), api.OK},
		{ages(0, 65536), api.OK},
		{ages(65536, 65536), api.OK},
		{with(1, 2, 1023, 10, sampling.Rule{Where: is("error"), Exponent: 3}), api.OK},
		{ages(-1, 2), api.ErrRange},
		{ages(-1, -1), api.ErrRange},
		{ages(3, 2), api.ErrRange},
		{ages(1, 0), api.ErrRange},
		{ages(0, 65537), api.ErrRange},
		{ages(65537, 65537), api.ErrRange},
		{ages(math.MinInt, math.MaxInt), api.ErrRange},
		{ages(math.MaxInt, math.MinInt), api.ErrRange},
		{with(1, 2, 0, 11), api.ErrRange},
		{with(1, 2, 0, 0, wrong), api.ErrKind},
		{with(1, 2, 0, 0, sampling.Rule{Where: both()}), api.ErrForm},
		{with(1, 2, 0, 0, make([]sampling.Rule, 17)...), api.ErrLimit},
		{with(1, 2, -1, 0), api.ErrRange},
		{with(1, 2, 1024, 0), api.ErrRange},
		{with(1, 2, math.MinInt, 0), api.ErrRange},
		{with(1, 2, math.MaxInt, 0), api.ErrRange},
		// The errors in their order.
		{with(3, 2, -1, 0, wrong), api.ErrRange},
		{with(1, 2, -1, 0, wrong), api.ErrKind},
	} {
		expectErr(t, fmt.Sprintf("Check of %v", c.p), retention.Check(c.p), c.e)
		k, e := retention.New(c.p)
		expectErr(t, fmt.Sprintf("New with %v", c.p), e, c.e)
		if (k != nil) != (c.e == api.OK) {
			t.Errorf("New with %v: %v", c.p, k)
		}
	}
	if retention.MaxAge != 1<<16 || retention.TierFull != 1 || retention.TierSampled != 2 || retention.TierGone != 3 {
		t.Errorf("the constants: %d, %d, %d, %d", retention.MaxAge, retention.TierFull, retention.TierSampled, retention.TierGone)
	}
}

// P33.1: the tier of a partition depends on its age.
func TestTier(t *testing.T) {
	for _, c := range []struct{ full, sampled, now, partition, want int }{
		{1, 2, 0, 0, 1},
		{1, 2, 15, 0, 1},
		{1, 2, 16, 0, 2},
		{1, 2, 31, 0, 2},
		{1, 2, 32, 0, 3},
		{1, 2, 1 << 20, 0, 3},
		{1, 2, 32, 1, 2},
		{1, 2, 32, 2, 1},
		{1, 2, 32, 3, 1},
		{1, 2, 0, 65536, 1},
		{3, 3, 47, 0, 1},
		{3, 3, 48, 0, 3},
		{0, 2, 0, 0, 2},
		{0, 2, 0, 1, 1},
		{0, 2, 31, 0, 2},
		{0, 2, 32, 0, 3},
		{0, 0, 0, 0, 3},
		{0, 0, 15, 0, 3},
		{0, 0, 15, 1, 1},
		{0, 0, 16, 1, 3},
		{65536, 65536, 1<<20 - 1, 0, 1},
		{65536, 65536, 1 << 20, 0, 3},
	} {
		if got := retention.Tier(ages(c.full, c.sampled), c.now, c.partition); got != c.want {
			t.Errorf("the tier of the partition %d at %d for the ages %d and %d: %d, want %d", c.partition, c.now, c.full, c.sampled, got, c.want)
		}
	}
}

// P1: Tier ends for all arguments.
func TestTierOfAnything(t *testing.T) {
	numbers := []int{math.MinInt, -1, 0, 1, math.MaxInt}
	for _, full := range numbers {
		for _, sampled := range numbers {
			for _, now := range numbers {
				for _, partition := range numbers {
					retention.Tier(ages(full, sampled), now, partition)
				}
			}
		}
	}
}
